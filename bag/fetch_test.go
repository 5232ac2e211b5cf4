package bag_test

import (
	"slices"
	"testing"

	"tidings/api"
	"tidings/bag"
)

// This file has whole worlds, by acts alone.

// writes gives a world behind what a replica writes: of each item that value.
func writes(t *testing.T, w api.World, a uint8, items map[uint8]uint32) api.World {
	t.Helper()
	for id := range uint8(api.MaxItems) {
		if value, ok := items[id]; ok {
			w = behind(t, w, put(a, id, value))
		}
	}
	return w
}

// sixItems is what is written where a fetch needs two Batches: of the classes 0 to 5.
func sixItems() map[uint8]uint32 {
	return map[uint8]uint32{0: 8, 3: 17, 4: 26, 9: 35, 40: 44, 63: 53}
}

// readsBelow fails unless a replica reads, of the six items, just those whose class is below that.
func readsBelow(t *testing.T, w api.World, a uint8, class uint32) {
	t.Helper()
	for id, value := range sixItems() {
		if value%8 < class {
			reads(t, w, a, id, value)
		} else {
			lacks(t, w, a, id)
		}
	}
}

// P8.2: of two, one writes and the other one fetches, batch by batch.
func TestTwo(t *testing.T) {
	w := writes(t, newWorld(t, 255, 0b1111), 0, sixItems())
	made := w.Reps[0].Held
	if len(made) != 6 || !slices.Equal(w.Made, made) || len(w.Bag) != 0 {
		t.Fatalf("written: %+v", w)
	}
	w = behind(t, w, begin(1, 0))
	pull := api.Note{Kind: api.Pull, From: 1, To: 0, Num: 1, Filter: 0b1111}
	want := altered(w, func(w *api.World) {
		w.Reps[1] = api.Replica{Rep: 1, Filter: 0b1111, Session: on(1, 0)}
		w.Bag = [][]byte{frame(t, pull)}
	})
	if !alike(w, want) {
		t.Fatalf("begun: %s", difference(w, want))
	}
	first := api.Note{Kind: api.Batch, From: 0, To: 1, Num: 1, Entries: made[:4], Next: 10, Offer: runs(run(0, 1, 6))}
	want.Bag = [][]byte{frame(t, first)}
	comes(t, "the Pull", w, deliver(0), want, 0)
	w = behind(t, w, deliver(0))
	pull.Cursor, pull.Know = 10, runs(run(0, 1, 4))
	want = altered(want, func(w *api.World) {
		r := &w.Reps[1]
		r.Know, r.Held, r.Session.Cursor, r.Session.Offer = pull.Know, made[:4], 10, first.Offer
		w.Bag = [][]byte{frame(t, pull)}
	})
	comes(t, "the first Batch", w, deliver(0), want, 0)
	w = behind(t, w, deliver(0))
	ghosts := entries(ghost(40, made[4].Ver, 4), ghost(63, made[5].Ver, 5))
	last := api.Note{Kind: api.Batch, From: 0, To: 1, Num: 1, Cursor: 10, Entries: ghosts, Next: 64, Done: true}
	want.Bag = [][]byte{frame(t, last)}
	comes(t, "the second Pull", w, deliver(0), want, 0)
	w = behind(t, w, deliver(0))
	want = altered(bagIs(want), func(w *api.World) {
		r := &w.Reps[1]
		r.Know, r.Held, r.Session = runs(run(0, 1, 6)), append(r.Held, ghosts...), api.Session{Last: 1}
	})
	comes(t, "the last Batch", w, deliver(0), want, 0)
	w = behind(t, w, deliver(0))
	readsBelow(t, w, 0, 8)
	readsBelow(t, w, 1, 4)
}

// fetched gives a world, whose Bag is empty, behind a fetch, each frame of which is delivered at once, and how many Batches there were.
func fetched(t *testing.T, w api.World, a, from uint8) (api.World, int) {
	t.Helper()
	w = behind(t, w, begin(a, from))
	batches := 0
	for len(w.Bag) > 0 {
		if noteAt(t, w, 0).Kind == api.Batch {
			batches++
		}
		w = behind(t, w, deliver(0))
	}
	if w.Reps[a].Session.On {
		t.Fatalf("goes on: %+v", w.Reps[a])
	}
	return w, batches
}

// P8.2: of three, one writes, the second one fetches from it, and the third one from that.
func TestThree(t *testing.T) {
	w := writes(t, newWorld(t, 255, 255, 0b111), 0, sixItems())
	w, first := fetched(t, w, 1, 0)
	w, second := fetched(t, w, 2, 1)
	w, third := fetched(t, w, 2, 0)
	if first != 2 || second != 2 || third != 1 {
		t.Errorf("%v, %v and %v Batches", first, second, third)
	}
	readsBelow(t, w, 1, 8)
	readsBelow(t, w, 2, 3)
	// What the third one deletes, and writes, goes back the same way; two write the same item.
	w = behind(t, w, erase(2, 0), put(2, 3, 18), put(0, 3, 20), put(0, 3, 21), put(1, 9, 36), put(2, 50, 2))
	w, _ = fetched(t, w, 1, 2)
	w, _ = fetched(t, w, 0, 1)
	w, _ = fetched(t, w, 1, 0)
	for _, a := range []uint8{0, 1} {
		lacks(t, w, a, 0)
		reads(t, w, a, 3, 21)
		reads(t, w, a, 9, 36)
		reads(t, w, a, 50, 2)
	}
	if len(w.Made) != 12 || !slices.Equal(w.Reps[0].Held, w.Reps[1].Held) {
		t.Errorf("%+v", w)
	}
}

// P8.2: two fetches at once, whose frames are delivered in turn, the last one first.
func TestThreeAtOnce(t *testing.T) {
	w := writes(t, newWorld(t, 255, 255, 255), 0, sixItems())
	w = behind(t, w, begin(1, 0), begin(2, 0), begin(0, 2))
	turns := 0
	for ; len(w.Bag) > 0; turns++ {
		w = behind(t, w, deliver(uint8(len(w.Bag)-1-turns%2*(len(w.Bag)-1))))
	}
	if turns != 10 || !slices.Equal(w.Reps[1].Held, w.Made) || !slices.Equal(w.Reps[2].Held, w.Made) || !slices.Equal(w.Reps[0].Held, w.Made) {
		t.Errorf("%v turns: %+v", turns, w)
	}
}

// halfway is a world of two in which 1 fetches from 0, and has taken in the first of two Batches: its second Pull is on the way.
func halfway(t *testing.T) api.World {
	t.Helper()
	w := writes(t, newWorld(t, 255, 255), 0, sixItems())
	return behind(t, w, begin(1, 0), deliver(0), deliver(0))
}

// P8.2: the source's filter is changed between two Batches: Ended, what came stays, and all comes with another fetch.
func TestSourceChanges(t *testing.T) {
	w := behind(t, halfway(t), filter(0, 0b111111), deliver(0))
	want := altered(bagIs(w), func(w *api.World) { w.Reps[1].Session = api.Session{Last: 1} })
	marked(t, "ended", w, deliver(0), want, api.Mark{Err: api.Ended})
	out, _ := bag.Do(w, deliver(0))
	reads(t, out, 1, 9, 35)
	lacks(t, out, 1, 40)
	out, batches := fetched(t, out, 1, 0)
	if batches != 1 || !slices.Equal(out.Reps[1].Held, out.Made) {
		t.Errorf("%v Batches: %+v", batches, out)
	}
	// Changed behind the answer, it alters nothing.
	w = behind(t, halfway(t), deliver(0), filter(0, 0b111111))
	w = behind(t, w, deliver(0))
	if w.Reps[1].Session.On || !slices.Equal(w.Reps[1].Held, w.Made) {
		t.Errorf("%+v", w)
	}
}

// P8.2: the fetching one's filter is changed between two Batches: its Session is left, and what is on the way comes too late.
func TestTargetChanges(t *testing.T) {
	w := behind(t, halfway(t), filter(1, 0b11))
	if s := w.Reps[1].Session; s.On || s.Last != 1 {
		t.Errorf("%+v", s)
	}
	fails(t, "again", w, again(1), api.Nothing)
	w = behind(t, w, deliver(0))
	delivered(t, "late", w, 0, api.Stale, nothing)
	w, _ = bag.Do(w, deliver(0))
	w, batches := fetched(t, w, 1, 0)
	if batches != 1 || len(w.Reps[1].Held) != 6 {
		t.Errorf("%v Batches: %+v", batches, w)
	}
	readsBelow(t, w, 1, 2)
	// The ghosts that its next filter has are fetched, and they alone.
	w = behind(t, w, filter(1, 255))
	if !slices.Equal(w.Reps[1].Know, runs(run(0, 1, 2))) {
		t.Errorf("known: %v", w.Reps[1].Know)
	}
	if w, batches = fetched(t, w, 1, 0); batches != 1 || !slices.Equal(w.Reps[1].Held, w.Made) {
		t.Errorf("%v Batches: %+v", batches, w)
	}
}

// P8.2: a frame is dropped, and asked for again: it goes on at the Cursor, and nothing is sent twice.
func TestDropAndAgain(t *testing.T) {
	pull := halfway(t)
	batch := behind(t, pull, deliver(0))
	for _, w := range []api.World{pull, batch} {
		w = behind(t, w, drop(0))
		if len(w.Bag) != 0 {
			t.Fatalf("%v frames", len(w.Bag))
		}
		w = behind(t, w, again(1))
		if !slices.Equal(w.Bag[0], pull.Bag[0]) {
			t.Errorf("asked again: %+v", noteAt(t, w, 0))
		}
		w = behind(t, w, deliver(0))
		if b := noteAt(t, w, 0); b.Cursor != 10 || !slices.Equal(b.Entries, w.Made[4:]) || !b.Done {
			t.Errorf("told: %+v", b)
		}
		w = behind(t, w, deliver(0))
		if !slices.Equal(w.Reps[1].Held, w.Made) || w.Reps[1].Session.On {
			t.Errorf("%+v", w.Reps[1])
		}
	}
}

// P8.2: a Session that is asked again, though nothing was lost: what comes second is Stale.
func TestAgainForNothing(t *testing.T) {
	w := behind(t, halfway(t), again(1), deliver(0), deliver(0))
	if len(w.Bag) != 2 || !slices.Equal(w.Bag[0], w.Bag[1]) {
		t.Fatalf("%v", w.Bag)
	}
	w = behind(t, w, deliver(1))
	delivered(t, "its twin", w, 0, api.Stale, nothing)
}

// P8.2: a Session that is quit: its Pull is answered still, what comes is Stale, and another one asks for the rest alone.
func TestQuitBetween(t *testing.T) {
	w := behind(t, halfway(t), quit(1))
	fails(t, "quit twice", w, quit(1), api.Nothing)
	w = behind(t, w, deliver(0))
	delivered(t, "late", w, 0, api.Stale, nothing)
	w = behind(t, w, begin(1, 0))
	delivered(t, "late, and another one On", w, 0, api.Stale, nothing)
	w = behind(t, w, drop(0), deliver(0))
	if b := noteAt(t, w, 0); b.Num != 2 || !slices.Equal(b.Entries, w.Made[4:]) || !b.Done {
		t.Errorf("told: %+v", b)
	}
	w = behind(t, w, deliver(0))
	if !slices.Equal(w.Reps[1].Held, w.Made) || w.Reps[1].Session.On || w.Reps[1].Session.Last != 2 {
		t.Errorf("%+v", w.Reps[1])
	}
}

// P8.2: a frame is copied: a Pull is answered twice, a Batch is taken once.
func TestCopies(t *testing.T) {
	w := behind(t, halfway(t), double(0))
	if len(w.Bag) != 2 || !slices.Equal(w.Bag[0], w.Bag[1]) {
		t.Fatalf("%v", w.Bag)
	}
	w = behind(t, w, deliver(0), deliver(0), double(1), double(0))
	if len(w.Bag) != 4 {
		t.Fatalf("%v frames", len(w.Bag))
	}
	w = behind(t, w, deliver(2))
	for at := range uint8(3) {
		delivered(t, "a copy", w, at, api.Stale, nothing)
	}
}

// P8.2: a frame is copied, and the copy spoiled: the first one is as it was, and is taken.
func TestSpoiledCopy(t *testing.T) {
	w := behind(t, halfway(t), deliver(0), double(0))
	whole := w.Bag[0]
	for _, at := range []uint8{0, 1} {
		spoiled := behind(t, w, spoil(at, 65536*64+30))
		if !slices.Equal(spoiled.Bag[1-at], whole) || slices.Equal(spoiled.Bag[at], whole) {
			t.Errorf("spoiled %v: %v", at, spoiled.Bag)
		}
		delivered(t, "spoiled", spoiled, at, api.BadSum, nothing)
		gone, _ := bag.Do(spoiled, deliver(at))
		gone = behind(t, gone, deliver(0))
		if !slices.Equal(gone.Reps[1].Held, gone.Made) || len(gone.Bag) != 0 {
			t.Errorf("%+v", gone)
		}
	}
}

// P8.2: all that is sent is spoiled, in turn: nobody is changed, and asked again all comes.
func TestNoise(t *testing.T) {
	w := writes(t, newWorld(t, 255, 255), 0, sixItems())
	w = behind(t, w, begin(1, 0))
	turns := uint32(0)
	for ; len(w.Bag) > 0; turns++ {
		was, sent := w, noteAt(t, w, 0)
		w = behind(t, w, spoil(0, (turns*37+1)*65536+turns*7+2))
		out, m := bag.Do(w, deliver(0))
		if m.Err != api.BadSum || !alike(out, bagIs(was)) {
			t.Fatalf("%v: %s", m, difference(out, bagIs(was)))
		}
		// Lost, so its Pull is sent again, and this time comes whole.
		w = behind(t, out, again(1), deliver(0))
		if sent.Kind == api.Batch {
			w = behind(t, w, deliver(0))
		}
	}
	if turns != 4 || w.Reps[1].Session.On || !slices.Equal(w.Reps[1].Held, w.Made) {
		t.Errorf("%v turns: %+v", turns, w.Reps[1])
	}
}
