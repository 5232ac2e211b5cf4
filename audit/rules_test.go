package audit_test

import (
	"errors"
	"reflect"
	"slices"
	"testing"

	"tidings/api"
	"tidings/audit"
	"tidings/bag"
)

// This file has the rules that hold everywhere.

// roomy gives a list alike, with spare room, in which one stands.
func roomy[T any](l []T, spare T) []T { return append(slices.Clone(l), spare)[:len(l)] }

// room gives a list with its spare room.
func room[T any](l []T) []T { return l[:cap(l)] }

// given gives a world whose lists have spare room, and what tells whether it is as it was, the spare room too.
func given(w api.World) (api.World, func() bool) {
	full, none := run(255, 255, 255), api.Entry{ID: 255}
	roomed := func() api.World {
		w := copied(w)
		for i := range w.Reps {
			r := &w.Reps[i]
			r.Know, r.Held, r.Session.Offer = roomy(r.Know, full), roomy(r.Held, none), roomy(r.Session.Offer, full)
		}
		for i := range w.Bag {
			w.Bag[i] = roomy(w.Bag[i], 77)
		}
		w.Reps, w.Bag, w.Made = roomy(w.Reps, api.Replica{Rep: 99}), roomy(w.Bag, []byte{99}), roomy(w.Made, none)
		return w
	}
	g, was := roomed(), spread(roomed())
	return g, func() bool { return reflect.DeepEqual(spread(g), was) }
}

// spread gives a world with the spare room of each list, in memory of its own.
func spread(w api.World) api.World {
	w.Reps, w.Bag, w.Made = room(w.Reps), room(w.Bag), room(w.Made)
	w = copied(w)
	for i := range w.Reps {
		r := &w.Reps[i]
		r.Know, r.Held, r.Session.Offer = slices.Clone(room(r.Know)), slices.Clone(room(r.Held)), slices.Clone(room(r.Session.Offer))
	}
	for i := range w.Bag {
		w.Bag[i] = slices.Clone(room(w.Bag[i]))
	}
	return w
}

// overwrite writes something of its own all over each list of a world, its spare room too, and tells whether each has kept that: whether no two share memory.
func overwrite(w api.World) bool {
	var checks []func() bool
	number := uint8(0)
	for _, r := range w.Reps {
		number++
		checks = append(checks, fill(r.Know, run(number, 1, 1)), fill(r.Session.Offer, run(number, 2, 2)), fill(r.Held, api.Entry{ID: number}))
	}
	checks = append(checks, fill(w.Made, api.Entry{ID: 255}))
	for _, f := range w.Bag {
		number++
		checks = append(checks, fill(f, number))
	}
	alone := !slices.ContainsFunc(checks, func(kept func() bool) bool { return !kept() })
	clear(room(w.Reps))
	clear(room(w.Bag))
	return alone
}

// fill writes something all over a list, its spare room too, and gives what tells whether it stands there still.
func fill[T comparable](l []T, by T) func() bool {
	l = room(l)
	for i := range l {
		l[i] = by
	}
	return func() bool { return !slices.ContainsFunc(l, func(x T) bool { return x != by }) }
}

// isAlone fails if a call changes the world that was handed in, or if what is told shares memory with it, or within itself.
func isAlone(t *testing.T, w api.World, to, from uint8) {
	t.Helper()
	g, untouched := given(w)
	e := audit.Check(g)
	if !untouched() {
		t.Fatalf("changed by Check: %+v", g)
	}
	out, _, _ := audit.Fetch(g, to, from)
	if !untouched() {
		t.Fatalf("changed by Fetch: %+v", g)
	}
	if !overwrite(out) {
		t.Fatalf("%v from %v: two lists of what is told share memory", to, from)
	}
	if !untouched() {
		t.Fatalf("%v from %v: shared: %+v", to, from, g)
	}
	// The other way about: what is told stays, whatever becomes of what was handed in.
	want, n, m := meantFetch(w, to, from)
	out, _, _ = audit.Fetch(g, to, from)
	overwrite(g)
	if !alike(out, want) {
		t.Fatalf("%v from %v, %v, %v: shared: %s", to, from, n, m, difference(out, want))
	}
	at, code := meantWrong(w)
	if code != 0 && e.Error() != (&api.Fault{At: at, Err: code}).Error() {
		t.Fatalf("%v, not %v at %v", e, code, at)
	}
}

// Rule 3: what is handed in stays, its spare room too, and what is told isn't bound to it, whatever comes of a call.
func TestArgumentsStay(t *testing.T) {
	someWorlds(t, 30, 80, func(w api.World) { pairs(w, func(to, from uint8) { isAlone(t, w, to, from) }) })
	w := worldOfAll(t)
	w.Bag = [][]byte{{1, 2}, {3}}
	for _, to := range []uint8{0, ring - 1, ring, 255} {
		for _, from := range []uint8{0, 1, ring, 7, 8, 255} {
			isAlone(t, w, to, from)
			isAlone(t, full(w, api.MaxBag-1), to, from)
			isAlone(t, full(w, api.MaxBag), to, from)
			isAlone(t, full(w, api.MaxBag+1), to, from)
		}
	}
	for _, l := range [][]alteration{numbersWrong(), heldWrong(), heldOfNone(), madeWrong(), lesserWrong(), ghostWrong()} {
		for _, a := range l {
			isAlone(t, altered(w, func(w *api.World) { a.alter(w, &w.Reps[1]) }), 1, 0)
		}
	}
}

// Rule 3: a fault that is told is one of its own.
func TestFaultsAreOwn(t *testing.T) {
	for _, w := range []api.World{{}, altered(worldOfAll(t), func(w *api.World) { lose(&w.Reps[2], kept(0)) })} {
		at, code := meantWrong(w)
		for range 2 {
			e := audit.Check(w)
			isWrong(t, "of its own", w, at, code)
			var fault *api.Fault
			if errors.As(e, &fault) {
				fault.At, fault.Err = 99, api.Ended
			}
			isWrong(t, "of its own", w, at, code)
		}
	}
}

// Rule 3: frames that share memory in what was handed in don't in what is told.
func TestSharedFrames(t *testing.T) {
	w := behind(t, itemsOf(t, 2, 255), begin(1, 0))
	w.Bag = [][]byte{w.Bag[0], w.Bag[0]}
	out, _, _ := audit.Fetch(w, 1, 0)
	if len(out.Bag) != 2 || !overwrite(out) {
		t.Errorf("%v", out.Bag)
	}
}

// Rule 4: what a call answers hangs on its arguments alone, also behind ones that went wrong.
func TestCallsAreAlone(t *testing.T) {
	w := worldOfAll(t)
	wrong := altered(w, func(w *api.World) { lose(&w.Reps[2], kept(0)); learn(&w.Reps[3], 5, 1) })
	want, n, m := meantFetch(w, 1, 0)
	for range 20 {
		isRight(t, "right", w)
		isWrong(t, "between", wrong, 2, api.Stale)
		fetches(t, "right", w, 1, 0, want, n, m.Err)
		fetches(t, "between", w, 1, 1, w, 0, api.Wrong)
		fetches(t, "between", w, ring, 0, w, 0, api.Nobody)
		isWrong(t, "between", api.World{}, 0, api.Wrong)
		fetches(t, "between", api.World{}, 1, 0, api.World{}, 0, api.Wrong)
	}
}

// Rule 5: whatever worlds, also far beyond every limit, each call ends.
func TestManyOfAll(t *testing.T) {
	const count = 100000
	w := worldOfAll(t)
	for _, w := range []api.World{
		{Reps: slices.Repeat([]api.Replica{{}}, count)},
		{Reps: w.Reps, Bag: make([][]byte, count)},
		altered(w, func(w *api.World) { w.Reps[1].Know = slices.Repeat(runs(run(0, 1, 1)), count) }),
		altered(w, func(w *api.World) { w.Reps[1].Held = slices.Repeat(w.Reps[1].Held, count) }),
		altered(w, func(w *api.World) { w.Reps[2].Session.Offer = slices.Repeat(runs(run(0, 1, 1)), count) }),
		altered(w, func(w *api.World) { w.Bag = slices.Repeat([][]byte{make([]byte, 5000)}, 2000) }),
	} {
		isWrong(t, "many", w, 0, api.Wrong)
		fetches(t, "many", w, 1, 0, w, 0, api.Wrong)
	}
	// Many were made, of one replica: all of them known, and just one held, or all of them of one item.
	for _, items := range []int{1, api.MaxItems} {
		one := newWorld(t, 255, 255)
		for i := range uint32(count) {
			one.Made = append(one.Made, valued(uint8(int(i)%items), ver(0, i+1, i+1), 8))
		}
		r := &one.Reps[0]
		r.Seq, r.Know = count, runs(run(0, 1, count))
		take(r, one.Made[count-items:]...)
		isRight(t, "many made", one)
		out := fetched(t, one, 1, 0, 2*max(1, items/4))
		isRight(t, "many made", out)
		lose(r, one.Made[count-1].ID)
		isWrong(t, "many made", one, 0, api.Stale)
		one.Made = one.Made[1:]
		isWrong(t, "many made", one, 0, api.Wrong)
	}
	// A run of all numbers isn't gone through number by number.
	all := newWorld(t, 255, 255)
	all.Reps[0].Seq, all.Reps[0].Know = most, runs(run(0, 1, most))
	isWrong(t, "all numbers", all, 0, api.Wrong)
	all.Made = entries(valued(1, ver(0, most, most), 1))
	isWrong(t, "all numbers", all, 0, api.Wrong)
	fetched(t, all, 1, 0, 2)
	w.Bag = slices.Repeat([][]byte{make([]byte, 1<<20)}, api.MaxBag-1)
	if out := fetched(t, w, 1, 0, 2); !bag.Right(out) || len(out.Bag) != api.MaxBag-1 {
		t.Error(len(out.Bag))
	}
}
