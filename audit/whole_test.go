package audit_test

import (
	"fmt"
	"reflect"
	"slices"
	"testing"

	"tidings/api"
	"tidings/audit"
	"tidings/bag"
	"tidings/note"
)

// This file has P3 to P5, of the whole.

// P3: behind a fetch from one whose filter has all that the target's has, the target reads the last writer's of all that both knew, whichever of both knew it.
func TestBroughtUpToDate(t *testing.T) {
	for _, filters := range [][]uint8{{255, 255, 255}, {255, 127, 3}, {3, 3, 3}, {7, 3, 1}} {
		w := behind(t, newWorld(t, filters...),
			put(0, 1, 8), put(0, 2, 8), put(0, 2, 16), // 0's alone, 0's twice
			put(1, 3, 8), put(1, 4, 8), erase(1, 4), // 1's alone, and deleted
			put(0, 5, 8), put(1, 5, 16), // both, of one Stamp
			put(0, 6, 8), put(0, 6, 16), put(1, 6, 24), // both, of which 0 wrote last
			put(0, 7, 9), put(0, 8, 9), put(1, 8, 8), // of a class that not all have
		)
		for to := uint8(1); to < 3; to++ {
			out, _, m := audit.Fetch(w, to, to-1)
			if m != (api.Mark{}) {
				t.Fatalf("%v: %+v", filters, m)
			}
			broughtUp(t, w, out, to, to-1)
			w = out
		}
		for _, a := range []uint8{1, 2} {
			for id, want := range map[uint8]uint32{1: 8, 2: 16, 3: 8, 5: 16, 6: 16, 8: 8} {
				reads(t, w, a, id, want)
			}
			lacks(t, w, a, 4)
			if filters[a]&2 > 0 {
				reads(t, w, a, 7, 9)
			} else {
				lacks(t, w, a, 7)
			}
			known(t, w, a, run(0, 1, 8), run(1, 1, 6))
		}
	}
}

// P3, P10.4: what the target has as a Ghost of a greater version, that neither knew, stays wanted: what was ahead of it isn't read any more.
func TestWantedStaysWanted(t *testing.T) {
	w := behind(t, newWorld(t, 255, 1, 255, 255), put(0, 4, 8))
	w = fetched(t, w, 2, 0, 2)
	w = fetched(t, w, 3, 0, 2)
	w = fetched(t, behind(t, w, put(0, 4, 9)), 1, 0, 2)
	w = fetched(t, w, 2, 1, 2)
	out := fetched(t, w, 2, 3, 2)
	if wanted := broughtUp(t, w, out, 2, 3); wanted != 1 {
		t.Errorf("%v wanted", wanted)
	}
	lacks(t, out, 2, 4)
	known(t, out, 2, run(0, 1, 1))
	holds(t, out, 2, ghost(4, ver(0, 2, 2), 1))
	isRight(t, "wanted", out)
	out = fetched(t, out, 2, 0, 2)
	reads(t, out, 2, 4, 9)
}

// told is an entry that a Batch told: of which item, and of which version.
type told struct {
	id  uint8
	ver api.Ver
}

// cutter goes through a fetch, and cuts it.
type cutter struct {
	t     *testing.T
	w     api.World
	to    uint8
	taken map[told]bool // what came of Batches ahead of a cut
}

// on tells whether the fetch goes on.
func (c *cutter) on() bool { return c.w.Reps[c.to].Session.On }

// do does an act that goes right.
func (c *cutter) do(a api.Act) {
	c.t.Helper()
	out, m := bag.Do(c.w, a)
	if m.Err != 0 {
		c.t.Fatalf("%+v: %v", a, m.Err)
	}
	c.w = out
	isRight(c.t, "on the way of a fetch that is cut", c.w)
}

// step delivers the last frame, and fails if it is a Batch that tells what was taken already.
func (c *cutter) step() {
	c.t.Helper()
	n := noteAt(c.t, c.w, last(c.w))
	for _, e := range n.Entries {
		at := told{e.ID, e.Ver}
		if c.taken[at] {
			c.t.Errorf("%+v is told again", e)
		}
		c.taken[at] = true
	}
	c.do(deliver(last(c.w)))
}

// lose has the last frame be lost, or only be late, and asks again.
func (c *cutter) lose(late bool) {
	c.t.Helper()
	if !late {
		c.do(drop(last(c.w)))
	}
	c.do(again(c.to))
}

// cutFetch gives the world behind a fetch that is cut behind the deliveries that cuts tells of, and asked for again; how often it was cut.
func cutFetch(t *testing.T, w api.World, to, from uint8, late bool, cuts func(k int) bool) (api.World, int) {
	t.Helper()
	c := &cutter{t: t, w: w, to: to, taken: map[told]bool{}}
	c.do(begin(to, from))
	n := 0
	for k := 0; c.on(); k++ {
		if cuts(k) && len(c.w.Bag) < api.MaxBag {
			n++
			c.lose(late)
			// A Batch that was lost isn't told of the Pull that is sent again: that comes ahead of it.
			if noteAt(t, c.w, last(c.w)).Kind != api.Pull {
				t.Fatalf("%+v", noteAt(t, c.w, last(c.w)))
			}
			if k%2 == 1 {
				c.do(deliver(last(c.w)))
			}
		}
		c.step()
	}
	return c.w, n
}

// sameTarget fails unless a replica of two worlds is the same.
func sameTarget(t *testing.T, name string, got, want api.World, a uint8) {
	t.Helper()
	if !reflect.DeepEqual(plain(got).Reps[a], plain(want).Reps[a]) {
		t.Errorf("%s: %s", name, difference(got, want))
	}
}

// isCut fails unless a fetch, that is cut behind each number of deliveries, and at each of them, ends as one that isn't, with nothing told again that was taken.
func isCut(t *testing.T, w api.World, to, from uint8) int {
	t.Helper()
	want, n, m := audit.Fetch(w, to, from)
	if m.Err != 0 {
		return 0
	}
	for k := range n {
		out, _ := cutFetch(t, w, to, from, false, func(at int) bool { return at == k })
		if !alike(out, want) {
			t.Errorf("cut at %v: %s", k, difference(out, want))
		}
		out, late := cutFetch(t, w, to, from, true, func(at int) bool { return at == k })
		sameTarget(t, fmt.Sprint("late at ", k), out, want, to)
		arrives(t, out, want, to, late)
	}
	out, cuts := cutFetch(t, w, to, from, false, func(int) bool { return true })
	if cuts != n || !alike(out, want) {
		t.Errorf("cut %v times, of %v: %s", cuts, n, difference(out, want))
	}
	return n
}

// arrives fails unless frames that come too late, the last ones of the Bag, alter the target in nothing.
func arrives(t *testing.T, w, want api.World, to uint8, late int) {
	t.Helper()
	for range 2 * late {
		if len(w.Bag) == len(want.Bag) {
			break
		}
		w, _ = bag.Do(w, deliver(last(w)))
		sameTarget(t, "too late", w, want, to)
	}
	if len(w.Bag) != len(want.Bag) {
		t.Errorf("%v frames, not %v", len(w.Bag), len(want.Bag))
	}
}

// P4: fetches of so many entries, from a wider one, an equal one, and a narrower one, whose Ghosts are wanted.
func TestCutFetch(t *testing.T) {
	for _, count := range []int{0, 1, 4, 5, 12, 13} {
		w := newWorld(t, 255, 3, 255)
		for id := range count {
			w = behind(t, w, put(0, uint8(id), uint32(id%4)))
		}
		w = fetched(t, w, 1, 0, 2*max(1, (count+3)/4))
		if n := isCut(t, w, 2, 0) + isCut(t, w, 2, 1); n != 4*max(1, (count+3)/4) {
			t.Errorf("%v: %v deliveries", count, n)
		}
		isCut(t, behind(t, w, filter(1, 12)), 1, 0)
	}
}

// P4: fetches in worlds that are drawn.
func TestCutDrawn(t *testing.T) {
	most := 0
	someWorlds(t, 60, 100, func(w api.World) {
		pairs(w, func(to, from uint8) {
			// What is lost, and what is asked for again, must have room.
			if len(w.Bag) < api.MaxBag-2 {
				most = max(most, isCut(t, w, to, from))
			}
		})
	})
	if most < 10 {
		t.Errorf("%v deliveries at most", most)
	}
}

// P4: a fetch that is cut goes on where it was while others write: what comes to be behind the cursor is told with the next one.
func TestCutWhileWritten(t *testing.T) {
	w := behind(t, itemsOf(t, 9, 255), begin(1, 0), deliver(0), deliver(0), drop(0))
	w = behind(t, w, put(0, 1, 80), put(0, 6, 160), put(1, 2, 240), put(1, 7, 248), again(1))
	c := &cutter{t: t, w: w, to: 1, taken: map[told]bool{}}
	for id := range uint8(4) {
		c.taken[told{id, ver(0, uint32(id)+1, 1)}] = true
	}
	for c.on() {
		c.step()
	}
	for id, want := range map[uint8]uint32{0: 0, 1: 8, 2: 240, 3: 24, 4: 32, 5: 40, 6: 160, 8: 64} {
		reads(t, c.w, 1, id, want)
	}
	reads(t, c.w, 1, 7, 248)
	known(t, c.w, 1, run(0, 1, 9), run(0, 11, 11), run(1, 1, 2))
	c.w = fetched(t, c.w, 1, 0, 2)
	reads(t, c.w, 1, 1, 80)
	reads(t, c.w, 1, 6, 160)
	isRight(t, "all", c.w)
}

// isNoise fails unless a frame that is spoiled, and delivered, changes nothing but that it is gone.
func isNoise(t *testing.T, w api.World, at uint8, n uint32) {
	t.Helper()
	code := api.BadSum
	if n%65536%uint32(len(w.Bag[at])) < 2 {
		// Of how many bytes it tells isn't what it has.
		code = api.BadFrame
	}
	// The second time it can't be read any more, and stays.
	out := w
	for range 2 {
		var m api.Mark
		if out, m = bag.Do(out, spoil(at, n)); m != (api.Mark{}) {
			t.Fatalf("%+v", m)
		}
	}
	out, m := bag.Do(out, deliver(at))
	want := copied(w)
	want.Bag = slices.Delete(want.Bag, int(at), int(at)+1)
	if m != (api.Mark{Err: code}) || !alike(out, want) {
		t.Errorf("spoiled by %x: %+v, not %v: %s", n, m, code, difference(out, want))
	}
}

// P5: each byte of a Pull and of a Batch, spoiled in each bit, and otherwise.
func TestNoise(t *testing.T) {
	w := behind(t, itemsOf(t, 5, 255), begin(1, 0))
	w = behind(t, w, double(0), deliver(0))
	for at := range uint8(2) {
		for i := range w.Bag[at] {
			for _, by := range []uint32{1, 2, 4, 8, 16, 32, 64, 128, 3, 255} {
				isNoise(t, w, at, by<<16+uint32(i))
			}
		}
		for by := range uint32(255) {
			isNoise(t, w, at, (by+1)<<16+11)
		}
	}
}

// P5: frames of worlds that are drawn.
func TestNoiseDrawn(t *testing.T) {
	s := numbers(3)
	count := 0
	someWorlds(t, 60, 10, func(w api.World) {
		for at, f := range w.Bag {
			if _, e := note.Read(f); e == nil && s.below(2) == 0 {
				isNoise(t, w, uint8(at), uint32(1+s.below(255))<<16+uint32(s.below(65536)))
				count++
			}
		}
	})
	if count < 1000 {
		t.Errorf("%v frames", count)
	}
}

// P5: in the midst of a fetch: it goes on when it is asked for again, as if the frame had been lost.
func TestNoiseInFetch(t *testing.T) {
	w := itemsOf(t, 9, 255)
	want := fetched(t, w, 1, 0, 6)
	w = behind(t, w, begin(1, 0))
	for w.Reps[1].Session.On {
		f := last(w)
		kind := noteAt(t, w, f).Kind
		spoiled := behind(t, w, spoil(f, 1<<16+7))
		out := fails(t, spoiled, deliver(f), api.BadSum)
		out = behind(t, out, again(1))
		if kind == api.Batch {
			out = behind(t, out, deliver(f))
		}
		if !alike(out, w) {
			t.Fatalf("%s", difference(out, w))
		}
		w = behind(t, w, deliver(f))
	}
	if !alike(w, want) {
		t.Errorf("%s", difference(w, want))
	}
}
