package bag_test

import (
	"errors"
	"fmt"
	"reflect"
	"slices"
	"testing"

	"tidings/api"
	"tidings/bag"
	"tidings/note"
)

const most = api.MaxNumber

// The acts, by what they do.
func put(a, item uint8, n uint32) api.Act { return api.Act{Kind: api.DoPut, A: a, B: item, N: n} }
func erase(a, item uint8) api.Act         { return api.Act{Kind: api.DoDelete, A: a, B: item} }
func get(a, item uint8) api.Act           { return api.Act{Kind: api.DoGet, A: a, B: item} }
func filter(a, filter uint8) api.Act      { return api.Act{Kind: api.DoFilter, A: a, B: filter} }
func begin(a, from uint8) api.Act         { return api.Act{Kind: api.DoBegin, A: a, B: from} }
func again(a uint8) api.Act               { return api.Act{Kind: api.DoAgain, A: a} }
func quit(a uint8) api.Act                { return api.Act{Kind: api.DoQuit, A: a} }
func deliver(at uint8) api.Act            { return api.Act{Kind: api.DoDeliver, B: at} }
func drop(at uint8) api.Act               { return api.Act{Kind: api.DoDrop, B: at} }
func double(at uint8) api.Act             { return api.Act{Kind: api.DoCopy, B: at} }
func spoil(at uint8, n uint32) api.Act    { return api.Act{Kind: api.DoSpoil, B: at, N: n} }

// run makes a run of a replica.
func run(rep uint8, from, to uint32) api.Run { return api.Run{Rep: rep, From: from, To: to} }

// runs makes a list of runs.
func runs(l ...api.Run) []api.Run { return l }

// singles makes count runs of a replica, of one number each: 2, 4 and so on.
func singles(rep uint8, count int) []api.Run {
	var k []api.Run
	for i := range uint32(count) {
		k = append(k, run(rep, 2*i+2, 2*i+2))
	}
	return k
}

// ver makes a version.
func ver(rep uint8, seq, stamp uint32) api.Ver { return api.Ver{Rep: rep, Seq: seq, Stamp: stamp} }

// valued makes a Real entry.
func valued(id uint8, v api.Ver, value uint32) api.Entry {
	return api.Entry{ID: id, Ver: v, Kind: api.Real, Class: uint8(value % 8), Value: value}
}

// ghost makes a Ghost.
func ghost(id uint8, v api.Ver, class uint8) api.Entry {
	return api.Entry{ID: id, Ver: v, Kind: api.Ghost, Class: class}
}

// dead makes a Dead entry.
func dead(id uint8, v api.Ver) api.Entry { return api.Entry{ID: id, Ver: v, Kind: api.Dead} }

// entries makes a list of entries.
func entries(l ...api.Entry) []api.Entry { return l }

// on makes a Session that is On, and ahead of its first Batch.
func on(num uint32, from uint8) api.Session {
	return api.Session{On: true, Num: num, From: from, Last: num}
}

// frame gives a note's frame.
func frame(t *testing.T, n api.Note) []byte {
	t.Helper()
	f, e := note.Write(n)
	if e != nil {
		t.Fatalf("%v of %+v", e, n)
	}
	return f
}

// copied gives a world alike, in memory of its own.
func copied(w api.World) api.World {
	w.Reps, w.Bag, w.Made = slices.Clone(w.Reps), slices.Clone(w.Bag), slices.Clone(w.Made)
	for i := range w.Reps {
		r := &w.Reps[i]
		r.Know, r.Held, r.Session.Offer = slices.Clone(r.Know), slices.Clone(r.Held), slices.Clone(r.Session.Offer)
	}
	for i := range w.Bag {
		w.Bag[i] = slices.Clone(w.Bag[i])
	}
	return w
}

// altered gives a world altered, in memory of its own.
func altered(w api.World, alter func(*api.World)) api.World {
	w = copied(w)
	alter(&w)
	return w
}

// plain gives a world in which each list that has no elements is nil.
func plain(w api.World) api.World {
	w = copied(w)
	w.Reps, w.Bag, w.Made = unlessEmpty(w.Reps), unlessEmpty(w.Bag), unlessEmpty(w.Made)
	for i := range w.Reps {
		r := &w.Reps[i]
		r.Know, r.Held, r.Session.Offer = unlessEmpty(r.Know), unlessEmpty(r.Held), unlessEmpty(r.Session.Offer)
	}
	for i := range w.Bag {
		w.Bag[i] = unlessEmpty(w.Bag[i])
	}
	return w
}

// unlessEmpty gives a list, or nil.
func unlessEmpty[T any](l []T) []T {
	if len(l) == 0 {
		return nil
	}
	return l
}

// alike: two worlds, nil and empty lists meaning the same.
func alike(a, b api.World) bool { return reflect.DeepEqual(plain(a), plain(b)) }

// newWorld is a world of replicas that have nothing.
func newWorld(t *testing.T, filters ...uint8) api.World {
	t.Helper()
	w, e := bag.New(filters)
	if e != nil {
		t.Fatal(e)
	}
	return w
}

// difference tells the first thing in which two worlds differ.
func difference(got, want api.World) string {
	got, want = plain(got), plain(want)
	for i := range min(len(got.Reps), len(want.Reps)) {
		if !reflect.DeepEqual(got.Reps[i], want.Reps[i]) {
			return fmt.Sprintf("replica %v:\n%+v\nnot\n%+v", i, got.Reps[i], want.Reps[i])
		}
	}
	for i := range min(len(got.Bag), len(want.Bag)) {
		if !slices.Equal(got.Bag[i], want.Bag[i]) {
			return fmt.Sprintf("frame %v: %v\nnot %v", i, got.Bag[i], want.Bag[i])
		}
	}
	return fmt.Sprintf("%v replicas, %v frames, made %v\nnot %v, %v, %v", len(got.Reps), len(got.Bag), got.Made, len(want.Reps), len(want.Bag), want.Made)
}

// comes fails unless an act goes right, and that world and value come of it.
func comes(t *testing.T, name string, w api.World, a api.Act, want api.World, value uint32) {
	t.Helper()
	marked(t, name, w, a, want, api.Mark{Value: value})
}

// fails fails unless an act goes wrong with that code, and changes nothing.
func fails(t *testing.T, name string, w api.World, a api.Act, want api.Code) {
	t.Helper()
	marked(t, name, w, a, w, api.Mark{Err: want})
}

// marked fails unless that world and that mark come of an act.
func marked(t *testing.T, name string, w api.World, a api.Act, want api.World, mark api.Mark) {
	t.Helper()
	out, m := bag.Do(w, a)
	if m != mark {
		t.Errorf("%s: %+v: mark %+v, not %+v", name, a, m, mark)
	}
	if !alike(out, want) {
		t.Errorf("%s: %+v: %s", name, a, difference(out, want))
	}
	if bag.Right(w) && !bag.Right(out) {
		t.Errorf("%s: %+v: not right any more: %+v", name, a, out)
	}
}

// behind gives a world behind acts that go right.
func behind(t *testing.T, w api.World, acts ...api.Act) api.World {
	t.Helper()
	for _, a := range acts {
		out, m := bag.Do(w, a)
		if m.Err != 0 {
			t.Fatalf("%+v: %v", a, m.Err)
		}
		w = out
	}
	return w
}

// reads fails unless a replica reads that of an item.
func reads(t *testing.T, w api.World, a, item uint8, want uint32) {
	t.Helper()
	comes(t, "read", w, get(a, item), w, want)
}

// lacks fails unless a replica reads nothing of an item.
func lacks(t *testing.T, w api.World, a, item uint8) {
	t.Helper()
	fails(t, "read", w, get(a, item), api.Nothing)
}

// noteAt gives the note whose frame lies at a place of the Bag.
func noteAt(t *testing.T, w api.World, at int) api.Note {
	t.Helper()
	if at >= len(w.Bag) {
		t.Fatalf("no frame at %v: %v", at, len(w.Bag))
	}
	n, e := note.Read(w.Bag[at])
	if e != nil {
		t.Fatal(e)
	}
	return n
}

// bagIs gives a world that has those frames in its Bag.
func bagIs(w api.World, frames ...[]byte) api.World {
	w.Bag = frames
	return w
}

// full gives a world with count frames in its Bag, no two alike, none of which can be read.
func full(w api.World, count int) api.World {
	w.Bag = nil
	for i := range count {
		w.Bag = append(w.Bag, []byte{byte(i), byte(i >> 8), 1})
	}
	return w
}

// codeOf is the code that an error is, or wraps.
func codeOf(e error) api.Code {
	for ; e != nil; e = errors.Unwrap(e) {
		if c, ok := e.(api.Code); ok {
			return c
		}
	}
	return 0
}
