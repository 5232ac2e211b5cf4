package audit_test

import (
	"fmt"
	"slices"
	"testing"

	"tidings/api"
	"tidings/audit"
	"tidings/bag"
	"tidings/item"
)

// This file has P10.1: of each thing that is wrong with a world one that has just that, and what is next to it and isn't wrong.

// places gives the first replica, those between, and the last one.
func places() []uint8 { return []uint8{0, 1, 2, ring - 1} }

// eachPlace fails unless of a world of all, with each of the alterations at each of the places, that is told.
func eachPlace(t *testing.T, l []alteration, code api.Code) {
	t.Helper()
	w := worldOfAll(t)
	for _, a := range l {
		for _, at := range places() {
			name := fmt.Sprintf("%s, at %v", a.name, at)
			out := altered(w, func(w *api.World) { a.alter(w, &w.Reps[at]) })
			if !bag.Right(out) {
				t.Fatalf("%s: not right: %+v", name, out)
			}
			is(t, name, out, int(at), code)
		}
	}
}

// P10.1: Wrong, and what is next to it.
func TestNumbers(t *testing.T) {
	eachPlace(t, numbersWrong(), api.Wrong)
	eachPlace(t, numbersRight(), 0)
}

// P10.1: Nothing, and what is next to it.
func TestHeld(t *testing.T) {
	eachPlace(t, heldWrong(), api.Nothing)
	eachPlace(t, heldOfNone(), api.Nothing)
	eachPlace(t, madeWrong(), api.Nothing)
	eachPlace(t, heldRight(), 0)
}

// P10.1: Stale, and what is next to it.
func TestLesser(t *testing.T) {
	eachPlace(t, lesserWrong(), api.Stale)
	eachPlace(t, lesserRight(), 0)
}

// P10.1: Outside, and what is next to it.
func TestGhosts(t *testing.T) {
	eachPlace(t, ghostWrong(), api.Outside)
	eachPlace(t, ghostRight(), 0)
}

// P10.1: several things at one replica: the first one is told.
func TestSeveralAtOne(t *testing.T) {
	w := worldOfAll(t)
	several := [...]struct {
		alteration
		code api.Code
	}{
		{numbersWrong()[0], api.Wrong}, {heldWrong()[0], api.Nothing}, {lesserWrong()[1], api.Stale}, {ghostWrong()[1], api.Outside},
	}
	for pick := 1; pick < 1<<len(several); pick++ {
		for _, at := range places() {
			out := copied(w)
			var codes []api.Code
			for i, a := range several {
				if pick>>i&1 == 1 {
					a.alter(&out, &out.Reps[at])
					codes = append(codes, a.code)
				}
			}
			isWrong(t, fmt.Sprintf("%v at %v", codes, at), out, int(at), codes[0])
		}
	}
}

// P10.1: something at each of two replicas: that of the first one is told, whatever it is.
func TestSeveralAtTwo(t *testing.T) {
	w := worldOfAll(t)
	kinds := [...]struct {
		wrong []alteration
		code  api.Code
	}{
		{numbersWrong(), api.Wrong}, {heldWrong(), api.Nothing}, {lesserWrong(), api.Stale}, {ghostWrong(), api.Outside},
	}
	for _, a := range kinds {
		for _, b := range kinds {
			for at := range uint8(ring) {
				for other := at + 1; other < ring; other++ {
					out := copied(w)
					a.wrong[1].alter(&out, &out.Reps[at])
					b.wrong[1].alter(&out, &out.Reps[other])
					isWrong(t, fmt.Sprintf("%v at %v, %v at %v", a.code, at, b.code, other), out, int(at), a.code)
					out.Bag = [][]byte{nil}
					isWrong(t, "with a frame", out, int(at), a.code)
				}
			}
		}
	}
}

// P10.1: of a replica's number of which there just is none, or one.
func TestLastReplica(t *testing.T) {
	for count := 2; count <= api.MaxReps; count++ {
		w := newWorld(t, slices.Repeat([]uint8{255}, count)...)
		end := uint8(count - 1)
		w = behind(t, w, put(end, 9, 9))
		w = exchanged(t, w)
		isRight(t, fmt.Sprint(count), w)
		known(t, w, 0, run(end, 1, 1))
		w.Reps = w.Reps[:end]
		isWrong(t, fmt.Sprint(count, " less 1"), w, 0, api.Wrong)
	}
}

// P10.1: of two that wrote with the same Stamp the greater replica's is the greater version; of one replica's the greater Seq.
func TestSameStamp(t *testing.T) {
	w := behind(t, newWorld(t, 255, 255, 255), put(0, 5, 8), put(1, 5, 16), put(2, 5, 24))
	for _, at := range []uint8{0, 1, 2} {
		for _, knows := range []uint8{0, 1, 2} {
			out := altered(w, func(w *api.World) { learn(&w.Reps[at], knows, 1) })
			if at < knows {
				isWrong(t, fmt.Sprintf("%v knows %v's", at, knows), out, int(at), api.Stale)
			} else {
				isRight(t, fmt.Sprintf("%v knows %v's", at, knows), out)
			}
		}
	}
	both := api.World{
		Reps: []api.Replica{{Filter: 255, Seq: 2, Know: runs(run(0, 1, 2)), Held: entries(valued(5, ver(0, 2, 1), 8))}},
		Made: entries(valued(5, ver(0, 1, 1), 16), valued(5, ver(0, 2, 1), 8)),
	}
	isRight(t, "the greater Seq", both)
	both.Reps[0].Held = entries(valued(5, ver(0, 1, 1), 16))
	isWrong(t, "the lesser Seq", both, 0, api.Stale)
	both.Reps[0].Know = runs(run(0, 1, 1))
	isRight(t, "the lesser Seq, and the greater isn't known", both)
}

// P10.1: a Ghost, of each class, behind each filter.
func TestGhostOfEachClass(t *testing.T) {
	for class := range uint8(8) {
		for f := range 256 {
			e := valued(7, ver(1, 1, 1), uint32(class))
			w := api.World{
				Reps: []api.Replica{
					{Filter: uint8(f), Know: runs(run(1, 1, 1)), Held: entries(item.Fade(e))},
					{Rep: 1, Filter: 255, Seq: 1, Know: runs(run(1, 1, 1)), Held: entries(e)},
				},
				Made: entries(e),
			}
			code := api.Code(0)
			if meantIn(class, uint8(f)) {
				code = api.Outside
			}
			is(t, fmt.Sprintf("%v behind %08b", class, f), w, 0, code)
			w.Reps[0].Know = nil
			isRight(t, fmt.Sprintf("%v behind %08b, not known", class, f), w)
		}
	}
}

// P10.1: a world that isn't right, in each way: Wrong, of the number 0, whatever else is wrong with it, and wherever.
func TestNotRight(t *testing.T) {
	w := worldOfAll(t)
	isWrong(t, "no world", api.World{}, 0, api.Wrong)
	isWrong(t, "no replica", api.World{Reps: []api.Replica{}, Made: w.Made}, 0, api.Wrong)
	nine := api.World{}
	for rep := range uint8(api.MaxReps + 1) {
		nine.Reps = append(nine.Reps, api.Replica{Rep: rep})
	}
	isWrong(t, "nine replicas", nine, 0, api.Wrong)
	isRight(t, "eight replicas", api.World{Reps: nine.Reps[:api.MaxReps]})
	isRight(t, "MaxBag frames", full(w, api.MaxBag))
	isWrong(t, "one more frame", full(w, api.MaxBag+1), 0, api.Wrong)
	isWrong(t, "a replica at another's place", altered(w, func(w *api.World) { w.Reps[1], w.Reps[2] = w.Reps[2], w.Reps[1] }), 0, api.Wrong)
	for name, alter := range map[string]func(r *api.Replica){
		"Rep":                  func(r *api.Replica) { r.Rep++ },
		"Know, of its own":     func(r *api.Replica) { r.Know[r.Rep].To++ },
		"Know":                 func(r *api.Replica) { r.Know[0].From = 0 },
		"Know, out of order":   func(r *api.Replica) { slices.Reverse(r.Know) },
		"Held, out of order":   func(r *api.Replica) { slices.Reverse(r.Held) },
		"Held, of no Kind":     func(r *api.Replica) { r.Held[0].Kind = 0 },
		"Held, one Seq twice":  func(r *api.Replica) { take(r, ghost(63, r.Held[0].Ver, 7)) },
		"Held, ahead of Seq":   func(r *api.Replica) { take(r, ghost(63, ver(r.Rep, 6, 1), 7)) },
		"Real, and not known":  func(r *api.Replica) { forget(r, r.Rep, 1) },
		"Real, in no filter":   func(r *api.Replica) { r.Filter &^= 1 << classOf(r.Rep) },
		"dead, and not known":  func(r *api.Replica) { forget(r, next(r.Rep), 3) },
		"Session, not On":      func(r *api.Replica) { r.Session.Num = 1 },
		"Session, from itself": func(r *api.Replica) { r.Session = api.Session{On: true, Num: 1, From: r.Rep, Last: 1} },
		"Session, no number":   func(r *api.Replica) { r.Session = api.Session{On: true, From: next(r.Rep), Last: 1} },
	} {
		for _, at := range places() {
			out := altered(w, func(w *api.World) { alter(&w.Reps[at]) })
			if bag.Right(out) {
				t.Fatalf("%s, at %v: right", name, at)
			}
			isWrong(t, fmt.Sprintf("%s, at %v", name, at), out, 0, api.Wrong)
			lose(&out.Reps[next(at)], kept(next(at)))
			isWrong(t, fmt.Sprintf("%s, at %v, and another one", name, at), out, 0, api.Wrong)
		}
	}
}

// P10.1: new worlds, of one replica and more, with filters of several classes: nothing is wrong.
func TestNewWorlds(t *testing.T) {
	for count := 1; count <= api.MaxReps; count++ {
		for f := range 256 {
			filters := make([]uint8, count)
			for i := range filters {
				filters[i] = uint8(f + 37*i)
			}
			isRight(t, fmt.Sprint(filters), newWorld(t, filters...))
		}
	}
	if e := audit.Check(newWorld(t, 255)); e != nil {
		t.Errorf("%v is no nil error", e)
	}
}
