// Package know is layer 1: what versions are known. See shared/doc/01-know.md.
package know

import (
	"cmp"
	"slices"

	"tidings/api"
)

// Right: are runs?
func Right(k []api.Run) bool {
	if len(k) > api.MaxRuns {
		return false
	}
	for i, r := range k {
		if !rightRun(r) || i > 0 && !apart(k[i-1], r) {
			return false
		}
	}
	return true
}

// Has: is a pair in a set?
func Has(k []api.Run, rep uint8, n uint32) bool {
	return Right(k) && slices.ContainsFunc(k, func(r api.Run) bool { return covers(r, rep, n) })
}

// Add: with a pair. Wrong, TooMany.
func Add(k []api.Run, rep uint8, n uint32) ([]api.Run, error) {
	// No such pair means no right run of it: Union's Wrong is the one that is due.
	return Union(k, []api.Run{{Rep: rep, From: n, To: n}})
}

// Drop: without a pair. Wrong, TooMany.
func Drop(k []api.Run, rep uint8, n uint32) ([]api.Run, error) {
	if !Right(k) || !rightRun(api.Run{Rep: rep, From: n, To: n}) {
		return nil, api.Wrong
	}
	var left []api.Run
	for _, r := range k {
		if covers(r, rep, n) {
			left = append(left, around(r, n)...)
		} else {
			left = append(left, r)
		}
	}
	return withinLimit(left)
}

// Union: the pairs of both. Wrong, TooMany.
func Union(a, b []api.Run) ([]api.Run, error) {
	if !Right(a) || !Right(b) {
		return nil, api.Wrong
	}
	return withinLimit(joined(inOrder(a, b)))
}

// rightRun tells whether a run is right by itself.
func rightRun(r api.Run) bool {
	return r.Rep < api.MaxReps && 1 <= r.From && r.From <= r.To
}

// covers tells whether a pair is one of a run's.
func covers(r api.Run, rep uint8, n uint32) bool {
	return r.Rep == rep && r.From <= n && n <= r.To
}

// apart tells whether next may stand behind r as a run of its own.
func apart(r, next api.Run) bool {
	switch {
	case r.Rep == next.Rep:
		// Held against To first, as the difference would wrap round below 0.
		if next.From <= r.To || next.From-r.To == 1 {
			return false
		}
		fallthrough
	case r.Rep < next.Rep:
		return true
	}
	return false
}

// around gives what is left of a run that covers n, if n goes.
func around(r api.Run, n uint32) []api.Run {
	var left []api.Run
	if r.From < n {
		left = append(left, api.Run{Rep: r.Rep, From: r.From, To: n - 1})
	}
	if n < r.To {
		left = append(left, api.Run{Rep: r.Rep, From: n + 1, To: r.To})
	}
	return left
}

// inOrder gives the runs of both lists by Rep, then by From, in new memory.
func inOrder(a, b []api.Run) []api.Run {
	all := slices.Concat(a, b)
	slices.SortFunc(all, func(x, y api.Run) int {
		if x.Rep != y.Rep {
			return cmp.Compare(x.Rep, y.Rep)
		}
		return cmp.Compare(x.From, y.From)
	})
	return all
}

// joined makes one run of those that overlap or touch, of a list in order.
func joined(all []api.Run) []api.Run {
	var out []api.Run
	for _, r := range all {
		last := len(out) - 1
		if last < 0 || apart(out[last], r) {
			out = append(out, r)
		} else {
			// A run may end within the one ahead of it.
			out[last].To = max(out[last].To, r.To)
		}
	}
	return out
}

// withinLimit refuses a set that needs too many runs.
func withinLimit(k []api.Run) ([]api.Run, error) {
	if len(k) > api.MaxRuns {
		return nil, api.TooMany
	}
	return k, nil
}
