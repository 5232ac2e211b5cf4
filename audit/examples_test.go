package audit_test

import (
	"bytes"
	"testing"

	"tidings/api"
	"tidings/bag"
	"tidings/script"
)

// This file has the ten examples of the whole; nothing is wrong with their worlds at any act.

// 1: 0 writes, 1 fetches: 1 reads it.
func TestExample1(t *testing.T) {
	w := behind(t, newWorld(t, 255, 255), put(0, 3, 77))
	lacks(t, w, 1, 3)
	w = fetched(t, w, 1, 0, 2)
	reads(t, w, 1, 3, 77)
	reads(t, w, 0, 3, 77)
	isRight(t, "fetched", w)
}

// 2: 1's filter has not its class: 1 holds a ghost, and knows it.
func TestExample2(t *testing.T) {
	w := behind(t, newWorld(t, 255, 255&^32), put(0, 3, 77))
	w = fetched(t, w, 1, 0, 2)
	lacks(t, w, 1, 3)
	holds(t, w, 1, ghost(3, ver(0, 1, 1), 5))
	known(t, w, 1, run(0, 1, 1))
	isRight(t, "fetched", w)
}

// 3: 1's filter is changed to have it: the ghost isn't known any more; it is fetched.
func TestExample3(t *testing.T) {
	w := behind(t, newWorld(t, 255, 255&^32), put(0, 3, 77))
	w = behind(t, fetched(t, w, 1, 0, 2), filter(1, 32))
	known(t, w, 1)
	holds(t, w, 1, ghost(3, ver(0, 1, 1), 5))
	w = fetched(t, w, 1, 0, 2)
	reads(t, w, 1, 3, 77)
	known(t, w, 1, run(0, 1, 1))
	isRight(t, "fetched", w)
}

// 4: deleted at 1, fetched by 0: 0 reads nothing, and never will of what was ahead.
func TestExample4(t *testing.T) {
	w := behind(t, newWorld(t, 255, 255, 255), put(0, 3, 77))
	w = fetched(t, w, 2, 0, 2)
	w = behind(t, fetched(t, w, 1, 0, 2), erase(1, 3))
	w = fetched(t, w, 0, 1, 2)
	lacks(t, w, 0, 3)
	// 2 has it still, and brings it to nobody.
	reads(t, w, 2, 3, 77)
	for _, from := range []uint8{2, 1, 2} {
		w = fetched(t, w, 0, from, 2)
		lacks(t, w, 0, 3)
		holds(t, w, 0, dead(3, ver(1, 1, 2)))
	}
	// Behind another filter, neither.
	w = behind(t, w, filter(0, 0), filter(0, 255))
	w = fetched(t, w, 0, 2, 2)
	lacks(t, w, 0, 3)
	w = fetched(t, w, 2, 0, 2)
	lacks(t, w, 2, 3)
	isRight(t, "all", w)
}

// 5: both wrote: the greater stamp, else the greater replica, is held.
func TestExample5(t *testing.T) {
	w := behind(t, newWorld(t, 255, 255), put(0, 3, 77), put(1, 3, 5), put(0, 4, 1), put(0, 4, 2), put(1, 4, 3))
	w = exchanged(t, w)
	for _, a := range []uint8{0, 1} {
		reads(t, w, a, 3, 5)
		reads(t, w, a, 4, 2)
	}
	isRight(t, "both", w)
}

// 6: the same Batch twice: Stale.
func TestExample6(t *testing.T) {
	w := behind(t, newWorld(t, 255, 255), put(0, 3, 77), begin(1, 0), deliver(0), double(0), deliver(0))
	reads(t, w, 1, 3, 77)
	out := fails(t, w, deliver(0), api.Stale)
	w.Bag = nil
	if !alike(out, w) {
		t.Errorf("%s", difference(out, w))
	}
	// Also where another one is waited for.
	w = behind(t, itemsOf(t, 6, 255), begin(1, 0), deliver(0), double(0), deliver(0))
	out = fails(t, w, deliver(0), api.Stale)
	w.Bag = w.Bag[1:]
	if !alike(out, w) {
		t.Errorf("%s", difference(out, w))
	}
	out = behind(t, out, deliver(0), deliver(0))
	known(t, out, 1, run(0, 1, 6))
}

// 7: a spoiled frame: BadSum.
func TestExample7(t *testing.T) {
	w := behind(t, newWorld(t, 255, 255), put(0, 3, 77), begin(1, 0), spoil(0, 1<<16+9))
	out := fails(t, w, deliver(0), api.BadSum)
	w.Bag = nil
	if !alike(out, w) {
		t.Errorf("%s", difference(out, w))
	}
	out = behind(t, out, again(1), deliver(0), deliver(0))
	reads(t, out, 1, 3, 77)
}

// 8: the source's filter changes between two batches: Ended.
func TestExample8(t *testing.T) {
	w := behind(t, itemsOf(t, 6, 255), begin(1, 0), deliver(0), deliver(0), filter(0, 127), deliver(0))
	out := fails(t, w, deliver(0), api.Ended)
	if out.Reps[1].Session.On || len(out.Reps[1].Held) != 4 || len(out.Bag) != 0 {
		t.Errorf("%+v", out.Reps[1])
	}
	known(t, out, 1, run(0, 1, 4))
	out = fetched(t, out, 1, 0, 2)
	known(t, out, 1, run(0, 1, 6))
	reads(t, out, 1, 5, 40)
}

// 9: a lost frame: asked again, it goes on at the cursor.
func TestExample9(t *testing.T) {
	w := behind(t, itemsOf(t, 6, 255), begin(1, 0), deliver(0), deliver(0))
	if n := noteAt(t, w, 0); n.Kind != api.Pull || n.Cursor != 4 {
		t.Errorf("%+v", n)
	}
	w = behind(t, w, drop(0), again(1))
	if n := noteAt(t, w, 0); n.Kind != api.Pull || n.Cursor != 4 {
		t.Errorf("%+v", n)
	}
	w = behind(t, w, deliver(0), drop(0), again(1), deliver(0))
	if n := noteAt(t, w, 0); n.Kind != api.Batch || n.Cursor != 4 || len(n.Entries) != 2 || !n.Done {
		t.Errorf("%+v", n)
	}
	w = behind(t, w, deliver(0))
	reads(t, w, 1, 0, 0)
	reads(t, w, 1, 5, 40)
	known(t, w, 1, run(0, 1, 6))
}

// 10: any bytes: a script.
func TestExample10(t *testing.T) {
	for _, b := range [][]byte{{0}, {255}, []byte("any bytes: a script"), bytes.Repeat([]byte("tidings"), 300), bytes.Repeat([]byte{7, 0, 3, 4}, 90)} {
		w, _, e := script.Run(b)
		if e != nil || !bag.Right(w) {
			t.Errorf("%v of %v", e, b)
		}
		isRight(t, "any bytes", w)
	}
}
