package audit_test

import (
	"errors"

	"tidings/api"
	"tidings/bag"
	"tidings/source"
	"tidings/target"
)

// This file has a second reading of the document's words, which the calls are held against.

// meantWrong is what is wrong with a world, and at which replica; 0: nothing is.
func meantWrong(w api.World) (int, api.Code) {
	if !bag.Right(w) {
		return 0, api.Wrong
	}
	for i, r := range w.Reps {
		switch {
		case meantNumbers(w, r):
			return i, api.Wrong
		case meantUnmade(w, r):
			return i, api.Nothing
		case meantLesser(w, r):
			return i, api.Stale
		case meantGhost(r):
			return i, api.Outside
		}
	}
	return 0, 0
}

// meantNumbers: a number that is known is above its replica's Seq, or there is no such replica; or Seq isn't how many were made.
func meantNumbers(w api.World, r api.Replica) bool {
	for _, x := range r.Know {
		found := false
		for _, of := range w.Reps {
			found = found || of.Rep == x.Rep && x.From <= of.Seq && x.To <= of.Seq
		}
		if !found {
			return true
		}
	}
	count := map[uint8]int{}
	for _, e := range w.Made {
		count[e.Ver.Rep]++
	}
	return int64(count[r.Rep]) != int64(r.Seq)
}

// meantUnmade: what is held isn't of Made.
func meantUnmade(w api.World, r api.Replica) bool {
	for _, h := range r.Held {
		ok := false
		for _, e := range w.Made {
			if e.ID != h.ID || e.Ver.Rep != h.Ver.Rep || e.Ver.Seq != h.Ver.Seq || e.Ver.Stamp != h.Ver.Stamp {
				continue
			}
			same := e.Kind == h.Kind && e.Class == h.Class && e.Value == h.Value
			faded := e.Kind == api.Real && h.Kind == api.Ghost && h.Class == e.Class && h.Value == 0
			ok = same || faded
			break
		}
		if !ok {
			return true
		}
	}
	return false
}

// meantLesser: what was made is known, and something lesser is held of the item, or nothing.
func meantLesser(w api.World, r api.Replica) bool {
	for _, e := range w.Made {
		if !meantKnown(r, e.Ver) {
			continue
		}
		enough := false
		for _, h := range r.Held {
			enough = enough || h.ID == e.ID && !meantLess(h.Ver, e.Ver)
		}
		if !enough {
			return true
		}
	}
	return false
}

// meantGhost: a Ghost is known, and its class is in the filter.
func meantGhost(r api.Replica) bool {
	for _, h := range r.Held {
		if h.Kind == api.Ghost && meantKnown(r, h.Ver) && meantIn(h.Class, r.Filter) {
			return true
		}
	}
	return false
}

// meantKnown: a version's Rep and Seq are known.
func meantKnown(r api.Replica, v api.Ver) bool {
	for _, x := range r.Know {
		if x.Rep == v.Rep && x.From <= v.Seq && v.Seq <= x.To {
			return true
		}
	}
	return false
}

// meantLess: by Stamp, then by Rep, then by Seq.
func meantLess(a, b api.Ver) bool {
	if a.Stamp != b.Stamp {
		return a.Stamp < b.Stamp
	}
	if a.Rep != b.Rep {
		return a.Rep < b.Rep
	}
	return a.Seq < b.Seq
}

// meantIn: a class's bit is set in a filter.
func meantIn(class, filter uint8) bool {
	for range class {
		filter /= 2
	}
	return filter%2 == 1
}

// meantFetch is what comes of a fetch, told by what the two say to one another, without frames.
func meantFetch(w api.World, t, s uint8) (api.World, int, api.Mark) {
	out := copied(w)
	wrong := func(n int, e error) (api.World, int, api.Mark) { return out, n, api.Mark{Err: codeOf(e)} }
	switch {
	case !bag.Right(w):
		return wrong(0, api.Wrong)
	case int(t) >= len(w.Reps):
		return wrong(0, api.Nobody)
	case len(w.Bag) == api.MaxBag:
		return wrong(0, api.TooMany)
	}
	r, pull, e := target.Begin(w.Reps[t], s)
	if e != nil {
		return wrong(0, e)
	}
	out.Reps[t] = r
	for n := 1; ; n += 2 {
		if int(s) >= len(w.Reps) {
			return wrong(n, api.Nobody)
		}
		b, e := source.Answer(out.Reps[s], pull)
		if e != nil {
			return wrong(n, e)
		}
		r, next, more, e := target.Accept(out.Reps[t], b)
		if e != nil {
			return wrong(n+1, e)
		}
		out.Reps[t], pull = r, next
		if !more {
			return out, n + 1, api.Mark{}
		}
	}
}

// codeOf is the code that an error is, or wraps.
func codeOf(e error) api.Code {
	for ; e != nil; e = errors.Unwrap(e) {
		if c, ok := e.(api.Code); ok {
			return c
		}
	}
	return 0
}
