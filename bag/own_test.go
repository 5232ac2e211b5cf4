package bag_test

import (
	"testing"

	"tidings/api"
	"tidings/bag"
	"tidings/replica"
	"tidings/target"
)

// This file has the acts that name a replica: DoPut, DoDelete, DoGet, DoFilter, DoBegin, DoAgain, DoQuit.

// P8.2: what is written is held by the replica that is named alone, and is behind all Made.
func TestPut(t *testing.T) {
	w := rightWorld(t)
	comes(t, "a new item", w, put(1, 5, 17), altered(w, func(w *api.World) {
		e := valued(5, ver(1, 2, 1), 17)
		w.Made = append(w.Made, e)
		w.Reps[1].Seq, w.Reps[1].Know = 2, runs(run(0, 2, 4), run(1, 1, 2))
		w.Reps[1].Held = entries(w.Reps[1].Held[0], e, w.Reps[1].Held[1], w.Reps[1].Held[2])
	}), 0)
	comes(t, "one that was dead", w, put(0, 3, most), altered(w, func(w *api.World) {
		e := valued(3, ver(0, 6, 4), most)
		w.Made = append(w.Made, e)
		w.Reps[0].Seq, w.Reps[0].Know, w.Reps[0].Held[1] = 6, runs(run(0, 1, 6)), e
	}), 0)
	comes(t, "by the last replica, of the last item", w, put(2, 63, 7), altered(w, func(w *api.World) {
		e := valued(63, ver(2, 2, 1), 7)
		w.Made = append(w.Made, e)
		w.Reps[2].Seq, w.Reps[2].Know, w.Reps[2].Held = 2, runs(run(2, 1, 2)), append(w.Reps[2].Held, e)
	}), 0)
	comes(t, "what was there already", w, put(2, 8, 15), altered(w, func(w *api.World) {
		e := valued(8, ver(2, 2, 2), 15)
		w.Made = append(w.Made, e)
		w.Reps[2].Seq, w.Reps[2].Know, w.Reps[2].Held = 2, runs(run(2, 1, 2)), entries(e)
	}), 0)
	comes(t, "the first of all", newWorld(t, 1), put(0, 0, 0), api.World{
		Reps: []api.Replica{{Filter: 1, Seq: 1, Know: runs(run(0, 1, 1)), Held: entries(valued(0, ver(0, 1, 1), 0))}},
		Made: entries(valued(0, ver(0, 1, 1), 0)),
	}, 0)
}

// P8.2: what Put refuses.
func TestPutRefused(t *testing.T) {
	w := rightWorld(t)
	fails(t, "no such item", w, put(0, 64, 0), api.Wrong)
	fails(t, "no such item, nor class", w, put(2, 255, 0), api.Wrong)
	fails(t, "no such class", w, put(2, 8, 6), api.Outside)
	fails(t, "no such class", w, put(1, 63, 2), api.Outside)
	last := altered(w, func(w *api.World) { w.Reps[2].Seq = most })
	fails(t, "the last number", last, put(2, 1, 15), api.TooMany)
	fails(t, "the last number, and no such class", last, put(2, 1, 14), api.Outside)
}

// P8.2: what is deleted is dead, and behind all Made.
func TestDelete(t *testing.T) {
	w := rightWorld(t)
	comes(t, "of the first replica", w, erase(0, 2), altered(w, func(w *api.World) {
		e := dead(2, ver(0, 6, 2))
		w.Made = append(w.Made, e)
		w.Reps[0].Seq, w.Reps[0].Know, w.Reps[0].Held[0] = 6, runs(run(0, 1, 6)), e
	}), 0)
	comes(t, "of the last replica", w, erase(2, 8), altered(w, func(w *api.World) {
		e := dead(8, ver(2, 2, 2))
		w.Made = append(w.Made, e)
		w.Reps[2].Seq, w.Reps[2].Know, w.Reps[2].Held = 2, runs(run(2, 1, 2)), entries(e)
	}), 0)
	// A number that the item doesn't need alters nothing.
	a := erase(2, 8)
	a.N = most
	comes(t, "of any number", w, a, behind(t, w, erase(2, 8)), 0)
	fails(t, "dead already", w, erase(0, 3), api.Nothing)
	fails(t, "a ghost", w, erase(1, 8), api.Nothing)
	fails(t, "not there", w, erase(2, 2), api.Nothing)
	fails(t, "no such item", w, erase(2, 64), api.Wrong)
	fails(t, "the last number", altered(w, func(w *api.World) { w.Reps[2].Seq = most }), erase(2, 8), api.TooMany)
}

// P8.2: a value is told, and nothing is changed.
func TestGet(t *testing.T) {
	w := rightWorld(t)
	comes(t, "of the first replica", w, get(0, 9), w, 8)
	comes(t, "of the second one", w, get(1, 7), w, 9)
	comes(t, "of the last one", w, get(2, 8), w, 15)
	great := newWorld(t, 255, 128)
	comes(t, "the greatest", behind(t, great, put(1, 63, most)), get(1, 63), behind(t, great, put(1, 63, most)), most)
	comes(t, "0", behind(t, great, put(0, 0, 0)), get(0, 0), behind(t, great, put(0, 0, 0)), 0)
	fails(t, "another one's", w, get(2, 2), api.Nothing)
	fails(t, "dead", w, get(0, 3), api.Nothing)
	fails(t, "a ghost", w, get(1, 8), api.Nothing)
	fails(t, "no such item", w, get(1, 64), api.Nothing)
	fails(t, "no such item", w, get(1, 255), api.Nothing)
}

// P8.2: another filter: what is Real is a ghost, what is a Ghost isn't known, and the Session isn't On.
func TestFilter(t *testing.T) {
	w := rightWorld(t)
	comes(t, "without a class", w, filter(1, 0b1), altered(w, func(w *api.World) {
		r := &w.Reps[1]
		r.Filter, r.Epoch, r.Session, r.Held[1] = 1, 1, api.Session{Last: 3}, ghost(7, ver(1, 1, 1), 1)
	}), 0)
	comes(t, "with one more", altered(w, func(w *api.World) { w.Reps[1].Know = runs(run(0, 2, 4), run(1, 1, 1), run(2, 1, 2)) }), filter(1, 255), altered(w, func(w *api.World) {
		r := &w.Reps[1]
		r.Filter, r.Epoch, r.Session, r.Know = 255, 1, api.Session{Last: 3}, runs(run(0, 2, 4), run(1, 1, 1), run(2, 2, 2))
	}), 0)
	comes(t, "of the last replica", w, filter(2, 0), altered(w, func(w *api.World) {
		r := &w.Reps[2]
		r.Filter, r.Epoch, r.Held[0] = 0, 2, ghost(8, ver(2, 1, 1), 7)
	}), 0)
	comes(t, "the same", w, filter(1, 0b11), w, 0)
	// A number that the filter doesn't need alters nothing.
	a := filter(2, 0)
	a.N = most
	comes(t, "of any number", w, a, behind(t, w, filter(2, 0)), 0)
	last := altered(w, func(w *api.World) { w.Reps[1].Epoch = most })
	fails(t, "the last Epoch", last, filter(1, 0), api.TooMany)
	comes(t, "the last Epoch, and the same", last, filter(1, 0b11), last, 0)
}

// P8.2: a Session begins, and its Pull is behind all in the Bag.
func TestBegin(t *testing.T) {
	w := rightWorld(t)
	comes(t, "the first", w, begin(0, 2), altered(w, func(w *api.World) {
		w.Reps[0].Session = on(1, 2)
		w.Bag = append(w.Bag, frame(t, api.Note{Kind: api.Pull, From: 0, To: 2, Num: 1, Filter: 255, Know: runs(run(0, 1, 5))}))
	}), 0)
	comes(t, "one that was On is left", w, begin(1, 2), altered(w, func(w *api.World) {
		w.Reps[1].Session = on(4, 2)
		w.Bag = append(w.Bag, frame(t, api.Note{Kind: api.Pull, From: 1, To: 2, Num: 4, Filter: 0b11, Know: runs(run(0, 2, 4), run(1, 1, 1))}))
	}), 0)
	comes(t, "of the last replica, from one that isn't there", w, begin(2, 7), altered(w, func(w *api.World) {
		w.Reps[2].Session = on(10, 7)
		w.Bag = append(w.Bag, frame(t, api.Note{Kind: api.Pull, From: 2, To: 7, Num: 10, Filter: 0b10000000, Know: runs(run(2, 1, 1))}))
	}), 0)
	fails(t, "from itself", w, begin(2, 2), api.Wrong)
	fails(t, "from no replica", w, begin(2, 8), api.Wrong)
	fails(t, "the last number", altered(w, func(w *api.World) { w.Reps[2].Session.Last = most }), begin(2, 0), api.TooMany)
}

// P8.2: a Session's Pull is behind all in the Bag once more, and nothing else is altered.
func TestAgain(t *testing.T) {
	w := rightWorld(t)
	once := altered(w, func(w *api.World) { w.Bag = append(w.Bag, w.Bag[0]) })
	comes(t, "once", w, again(1), once, 0)
	comes(t, "twice", once, again(1), altered(once, func(w *api.World) { w.Bag = append(w.Bag, w.Bag[0]) }), 0)
	a := again(1)
	a.B, a.N = 255, most
	comes(t, "of any item and number", w, a, once, 0)
	fails(t, "never begun", w, again(0), api.Nothing)
	fails(t, "over", w, again(2), api.Nothing)
}

// P8.2: a Session is left; what is on the way stays there.
func TestQuit(t *testing.T) {
	w := rightWorld(t)
	left := altered(w, func(w *api.World) { w.Reps[1].Session = api.Session{Last: 3} })
	comes(t, "once", w, quit(1), left, 0)
	a := quit(1)
	a.B, a.N = 255, most
	comes(t, "of any item and number", w, a, left, 0)
	fails(t, "twice", left, quit(1), api.Nothing)
	fails(t, "never begun", w, quit(0), api.Nothing)
	fails(t, "over", w, quit(2), api.Nothing)
	comes(t, "of a full Bag", full(w, api.MaxBag), quit(1), full(left, api.MaxBag), 0)
}

// P8.2: the replica that is named is the last one, or there is none: of each Kind that names one.
func TestOfEachReplica(t *testing.T) {
	for count := uint8(1); count <= api.MaxReps; count++ {
		w := newWorld(t, []uint8{255, 255, 255, 255, 255, 255, 255, 255}[:count]...)
		last, from := count-1, (count+5)%8
		w = behind(t, w, put(last, 4, 12), begin(last, from))
		r := w.Reps[last]
		second, _ := replica.Put(r, 4, 13)
		third, _ := replica.Delete(r, 4)
		narrow, _ := replica.Change(r, 16)
		begun, pull, _ := target.Begin(r, from)
		for _, c := range []struct {
			act   api.Act
			rep   api.Replica
			made  []api.Entry
			sent  [][]byte
			value uint32
		}{
			{put(last, 4, 13), second, second.Held, nil, 0},
			{erase(last, 4), third, third.Held, nil, 0},
			{get(last, 4), r, nil, nil, 12},
			{filter(last, 16), narrow, nil, nil, 0},
			{begin(last, from), begun, nil, [][]byte{frame(t, pull)}, 0},
			{again(last), r, nil, w.Bag, 0},
			{quit(last), quitted(r), nil, nil, 0},
		} {
			comes(t, "the last one", w, c.act, altered(w, func(w *api.World) {
				w.Reps[last], w.Made, w.Bag = c.rep, append(w.Made, c.made...), append(w.Bag, c.sent...)
			}), c.value)
			for _, a := range []uint8{count, count + 1, 8, 255} {
				c.act.A = max(a, count)
				fails(t, "none such", w, c.act, api.Nobody)
			}
		}
		// The others name none.
		for _, act := range []api.Act{deliver(0), drop(0), double(0), spoil(0, 1)} {
			out, m := bag.Do(w, act)
			act.A = 255
			marked(t, "names none", w, act, out, m)
			if m.Err == api.Nobody && act.Kind != api.DoDeliver {
				t.Errorf("%+v: %v", act, m)
			}
		}
	}
}

// quitted gives a replica with a Session that isn't On.
func quitted(r api.Replica) api.Replica {
	r.Session = api.Session{Last: r.Session.Last}
	return r
}
