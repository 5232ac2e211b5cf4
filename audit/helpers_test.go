package audit_test

import (
	"errors"
	"fmt"
	"reflect"
	"slices"
	"testing"

	"tidings/api"
	"tidings/audit"
	"tidings/bag"
	"tidings/item"
	"tidings/note"
)

const most = api.MaxNumber

// The acts, by what they do.
func put(a, item uint8, n uint32) api.Act { return api.Act{Kind: api.DoPut, A: a, B: item, N: n} }
func erase(a, item uint8) api.Act         { return api.Act{Kind: api.DoDelete, A: a, B: item} }
func get(a, item uint8) api.Act           { return api.Act{Kind: api.DoGet, A: a, B: item} }
func filter(a, filter uint8) api.Act      { return api.Act{Kind: api.DoFilter, A: a, B: filter} }
func begin(a, from uint8) api.Act         { return api.Act{Kind: api.DoBegin, A: a, B: from} }
func again(a uint8) api.Act               { return api.Act{Kind: api.DoAgain, A: a} }
func quit(a uint8) api.Act                { return api.Act{Kind: api.DoQuit, A: a} }
func deliver(at uint8) api.Act            { return api.Act{Kind: api.DoDeliver, B: at} }
func drop(at uint8) api.Act               { return api.Act{Kind: api.DoDrop, B: at} }
func double(at uint8) api.Act             { return api.Act{Kind: api.DoCopy, B: at} }
func spoil(at uint8, n uint32) api.Act    { return api.Act{Kind: api.DoSpoil, B: at, N: n} }

// run makes a run of a replica.
func run(rep uint8, from, to uint32) api.Run { return api.Run{Rep: rep, From: from, To: to} }

// runs makes a list of runs.
func runs(l ...api.Run) []api.Run { return l }

// ver makes a version.
func ver(rep uint8, seq, stamp uint32) api.Ver { return api.Ver{Rep: rep, Seq: seq, Stamp: stamp} }

// valued makes a Real entry.
func valued(id uint8, v api.Ver, value uint32) api.Entry {
	return api.Entry{ID: id, Ver: v, Kind: api.Real, Class: uint8(value % 8), Value: value}
}

// ghost makes a Ghost.
func ghost(id uint8, v api.Ver, class uint8) api.Entry {
	return api.Entry{ID: id, Ver: v, Kind: api.Ghost, Class: class}
}

// dead makes a Dead entry.
func dead(id uint8, v api.Ver) api.Entry { return api.Entry{ID: id, Ver: v, Kind: api.Dead} }

// entries makes a list of entries.
func entries(l ...api.Entry) []api.Entry { return l }

// newWorld is a world of replicas that have nothing.
func newWorld(t *testing.T, filters ...uint8) api.World {
	t.Helper()
	w, e := bag.New(filters)
	if e != nil {
		t.Fatal(e)
	}
	return w
}

// copied gives a world alike, in memory of its own.
func copied(w api.World) api.World {
	w.Reps, w.Bag, w.Made = slices.Clone(w.Reps), slices.Clone(w.Bag), slices.Clone(w.Made)
	for i := range w.Reps {
		r := &w.Reps[i]
		r.Know, r.Held, r.Session.Offer = slices.Clone(r.Know), slices.Clone(r.Held), slices.Clone(r.Session.Offer)
	}
	for i := range w.Bag {
		w.Bag[i] = slices.Clone(w.Bag[i])
	}
	return w
}

// altered gives a world altered, in memory of its own.
func altered(w api.World, alter func(*api.World)) api.World {
	w = copied(w)
	alter(&w)
	return w
}

// plain gives a world, in memory of its own, in which each list that has no elements is nil.
func plain(w api.World) api.World {
	w.Reps, w.Bag, w.Made = unlessEmpty(w.Reps), unlessEmpty(w.Bag), unlessEmpty(w.Made)
	for i := range w.Reps {
		r := &w.Reps[i]
		r.Know, r.Held, r.Session.Offer = unlessEmpty(r.Know), unlessEmpty(r.Held), unlessEmpty(r.Session.Offer)
	}
	for i := range w.Bag {
		w.Bag[i] = unlessEmpty(w.Bag[i])
	}
	return w
}

// unlessEmpty gives a list alike, in memory of its own, or nil.
func unlessEmpty[T any](l []T) []T { return append([]T(nil), l...) }

// alike: two worlds, nil and empty lists meaning the same.
func alike(a, b api.World) bool { return reflect.DeepEqual(plain(a), plain(b)) }

// difference tells the first thing in which two worlds differ.
func difference(got, want api.World) string {
	got, want = plain(got), plain(want)
	for i := range min(len(got.Reps), len(want.Reps)) {
		if !reflect.DeepEqual(got.Reps[i], want.Reps[i]) {
			return fmt.Sprintf("replica %v:\n%+v\nnot\n%+v", i, got.Reps[i], want.Reps[i])
		}
	}
	return fmt.Sprintf("%v replicas, frames %v, made %v\nnot %v, %v, %v", len(got.Reps), got.Bag, got.Made, len(want.Reps), want.Bag, want.Made)
}

// isRight fails unless nothing is wrong with a world.
func isRight(t *testing.T, name string, w api.World) {
	t.Helper()
	if e := audit.Check(w); e != nil {
		t.Errorf("%s: %v", name, e)
	}
}

// isWrong fails unless that is wrong with a world, at that replica.
func isWrong(t *testing.T, name string, w api.World, at int, code api.Code) {
	t.Helper()
	e := audit.Check(w)
	var fault *api.Fault
	if !errors.As(e, &fault) {
		t.Errorf("%s: %v is no fault, not %v at %v", name, e, code, at)
		return
	}
	var told api.Code
	if fault.At != at || !errors.Is(e, code) || !errors.As(errors.Unwrap(e), &told) || told != code {
		t.Errorf("%s: %v, not %v at %v", name, e, code, at)
	}
}

// is fails unless of a world is told what is meant: nothing (0), or that it is wrong so, at that replica.
func is(t *testing.T, name string, w api.World, at int, code api.Code) {
	t.Helper()
	if code == 0 {
		isRight(t, name, w)
	} else {
		isWrong(t, name, w, at, code)
	}
}

// fetches fails unless of a fetch that world, that number of deliveries and that mark come.
func fetches(t *testing.T, name string, w api.World, to, from uint8, want api.World, count int, code api.Code) {
	t.Helper()
	out, n, m := audit.Fetch(w, to, from)
	if n != count || m != (api.Mark{Err: code}) {
		t.Errorf("%s: %v deliveries, %+v, not %v, %v", name, n, m, count, code)
	}
	if !alike(out, want) {
		t.Errorf("%s: %s", name, difference(out, want))
	}
}

// fetched gives the world behind a fetch that goes right, with as many deliveries.
func fetched(t *testing.T, w api.World, to, from uint8, count int) api.World {
	t.Helper()
	out, n, m := audit.Fetch(w, to, from)
	if n != count || m != (api.Mark{}) {
		t.Fatalf("%v from %v: %v deliveries, %+v, not %v", to, from, n, m, count)
	}
	return out
}

// exchanged gives the world behind fetches that go right, of each from each other one.
func exchanged(t *testing.T, w api.World) api.World {
	t.Helper()
	for to := range uint8(len(w.Reps)) {
		for from := range uint8(len(w.Reps)) {
			if to == from {
				continue
			}
			var m api.Mark
			if w, _, m = audit.Fetch(w, to, from); m != (api.Mark{}) {
				t.Fatalf("%v from %v: %+v", to, from, m)
			}
		}
	}
	return w
}

// behind gives a world behind acts that go right, at each of which nothing is wrong.
func behind(t *testing.T, w api.World, acts ...api.Act) api.World {
	t.Helper()
	for _, a := range acts {
		out, m := bag.Do(w, a)
		if m.Err != 0 {
			t.Fatalf("%+v: %v", a, m.Err)
		}
		w = out
		isRight(t, fmt.Sprintf("behind %+v", a), w)
	}
	return w
}

// fails gives the world behind an act that goes wrong with that code.
func fails(t *testing.T, w api.World, a api.Act, want api.Code) api.World {
	t.Helper()
	out, m := bag.Do(w, a)
	if m != (api.Mark{Err: want}) {
		t.Errorf("%+v: %+v, not %v", a, m, want)
	}
	isRight(t, fmt.Sprintf("behind %+v", a), out)
	return out
}

// reads fails unless a replica reads that of an item.
func reads(t *testing.T, w api.World, a, id uint8, want uint32) {
	t.Helper()
	if _, m := bag.Do(w, get(a, id)); m != (api.Mark{Value: want}) {
		t.Errorf("%v reads %+v of %v, not %v", a, m, id, want)
	}
}

// lacks fails unless a replica reads nothing of an item.
func lacks(t *testing.T, w api.World, a, id uint8) {
	t.Helper()
	if _, m := bag.Do(w, get(a, id)); m != (api.Mark{Err: api.Nothing}) {
		t.Errorf("%v reads %+v of %v", a, m, id)
	}
}

// holds fails unless a replica holds that.
func holds(t *testing.T, w api.World, a uint8, want api.Entry) {
	t.Helper()
	if e, found := item.Find(w.Reps[a].Held, want.ID); !found || e != want {
		t.Errorf("%v holds %+v, not %+v", a, e, want)
	}
}

// known fails unless a replica knows just these.
func known(t *testing.T, w api.World, a uint8, want ...api.Run) {
	t.Helper()
	if !slices.Equal(w.Reps[a].Know, want) {
		t.Errorf("%v knows %v, not %v", a, w.Reps[a].Know, want)
	}
}

// last gives the place of the last frame of a Bag.
func last(w api.World) uint8 { return uint8(len(w.Bag) - 1) }

// noteAt gives the note whose frame lies at a place of the Bag.
func noteAt(t *testing.T, w api.World, at uint8) api.Note {
	t.Helper()
	if int(at) >= len(w.Bag) {
		t.Fatalf("no frame at %v: %v", at, len(w.Bag))
	}
	n, e := note.Read(w.Bag[at])
	if e != nil {
		t.Fatal(e)
	}
	return n
}

// full gives a world with count frames in its Bag, no two alike, none of which can be read.
func full(w api.World, count int) api.World {
	w.Bag = nil
	for i := range count {
		w.Bag = append(w.Bag, []byte{byte(i), byte(i >> 8), 1})
	}
	return w
}

// numbers gives numbers that look like none in particular, the same ones in each run.
type numbers uint64

// below gives the next one, below n.
func (s *numbers) below(n int) int {
	*s = *s*6364136223846793005 + 1442695040888963407
	return int(uint64(*s) >> 33 % uint64(n))
}

// chosen gives one of a list.
func chosen[T any](s *numbers, l ...T) T { return l[s.below(len(l))] }
