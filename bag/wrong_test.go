package bag_test

import (
	"testing"

	"tidings/api"
	"tidings/bag"
)

// This file has what goes wrong, and what comes first, where several things do.

// eachKind gives an act of each Kind that there is.
func eachKind(a, b uint8) []api.Act {
	var l []api.Act
	for kind := api.DoPut; kind <= api.DoSpoil; kind++ {
		l = append(l, api.Act{Kind: kind, A: a, B: b, N: 65536})
	}
	return l
}

// P8.2: of a world that isn't right, whatever else is wrong: Wrong, and it stays as it is.
func TestWrongWorldFirst(t *testing.T) {
	for name, w := range wrongWorlds(t) {
		for _, a := range []uint8{0, 2, 8, 255} {
			for _, act := range append(eachKind(a, a), api.Act{A: a}, api.Act{Kind: 12, B: a}) {
				fails(t, name, w, act, api.Wrong)
				fails(t, name, altered(w, func(w *api.World) { w.Bag = nil }), api.Act{Kind: 99}, api.Wrong)
			}
		}
	}
}

// P8.2: of a Kind that there isn't: Wrong, ahead of Nobody, Nothing and TooMany.
func TestWrongKindFirst(t *testing.T) {
	w := rightWorld(t)
	for _, w := range []api.World{w, bagIs(w), full(w, api.MaxBag)} {
		for _, kind := range []int{0, 12, -1} {
			fails(t, "no such Kind", w, api.Act{Kind: kind, A: 3, B: 64}, api.Wrong)
		}
	}
}

// P8.2: of a replica that there isn't: Nobody, ahead of TooMany, and of what the calls tell.
func TestNobodyFirst(t *testing.T) {
	w := rightWorld(t)
	for _, w := range []api.World{w, bagIs(w), full(w, api.MaxBag)} {
		for _, a := range []uint8{3, 7, 8, 255} {
			for _, b := range []uint8{0, 64, a} {
				for _, act := range eachKind(a, b)[:api.DoQuit] {
					fails(t, "nobody", w, act, api.Nobody)
				}
			}
		}
	}
}

// P8.2: of a frame that there isn't: Nothing, ahead of TooMany; A may be any.
func TestNothingFirst(t *testing.T) {
	w := rightWorld(t)
	for _, w := range []api.World{w, bagIs(w), full(w, api.MaxBag)} {
		for _, a := range []uint8{0, 3, 255} {
			for _, act := range eachKind(a, uint8(len(w.Bag)))[api.DoQuit:] {
				fails(t, "nothing", w, act, api.Nothing)
			}
		}
	}
}

// P8.2: of a full Bag: TooMany, ahead of what the calls tell.
func TestTooManyFirst(t *testing.T) {
	w := rightWorld(t)
	none := full(w, api.MaxBag)
	fails(t, "from itself", none, begin(1, 1), api.TooMany)
	fails(t, "from no replica", none, begin(1, 8), api.TooMany)
	fails(t, "no Session", none, again(0), api.TooMany)
	room := full(w, api.MaxBag-1)
	fails(t, "from itself", room, begin(1, 1), api.Wrong)
	fails(t, "from no replica", room, begin(1, 8), api.Wrong)
	fails(t, "no Session", room, again(0), api.Nothing)
	last := altered(room, func(w *api.World) { w.Reps[1].Session.Last = most })
	fails(t, "the last number, and from itself", last, begin(1, 1), api.Wrong)
	fails(t, "the last number", last, begin(1, 0), api.TooMany)
}

// P8.2: what can't be read comes ahead of for whom it would be.
func TestUnreadableFirst(t *testing.T) {
	w := rightWorld(t)
	f := frame(t, api.Note{Kind: api.Pull, From: 1, To: 7, Num: 1})
	delivered(t, "nobody", bagIs(w, f), 0, api.Nobody, nothing)
	delivered(t, "its sum", spoiledAt(bagIs(w, f), 0, 9, 1), 0, api.BadSum, nothing)
	delivered(t, "its size", spoiledAt(bagIs(w, f), 0, 1, 1), 0, api.BadFrame, nothing)
}

// P8.2: beside what goes wrong there is no value.
func TestNoValueBeside(t *testing.T) {
	w := rightWorld(t)
	for _, act := range eachKind(1, 64) {
		if _, m := bag.Do(w, act); m.Value != 0 || m.Err == 0 && act.Kind != api.DoFilter && act.Kind != api.DoAgain && act.Kind != api.DoQuit {
			t.Errorf("%+v: %v", act, m)
		}
	}
}
