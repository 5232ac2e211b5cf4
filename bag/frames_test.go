package bag_test

import (
	"slices"
	"testing"

	"tidings/api"
	"tidings/bag"
	"tidings/source"
	"tidings/target"
	"tidings/wire"
)

// This file has the acts that name a frame: DoDeliver, DoDrop, DoCopy, DoSpoil; and how many frames there may be.

// delivered fails unless a frame at B is gone behind its delivery, with that mark, and nothing else is altered but as want tells.
func delivered(t *testing.T, name string, w api.World, at uint8, code api.Code, want func(*api.World)) {
	t.Helper()
	gone := altered(w, func(w *api.World) { w.Bag = slices.Delete(w.Bag, int(at), int(at)+1) })
	marked(t, name, w, deliver(at), altered(gone, want), api.Mark{Err: code})
}

// nothing alters nothing.
func nothing(*api.World) {}

// amid gives worlds that are alike but for where a frame lies, and where that is: alone, first, last, and amid others, also in a full Bag.
func amid(w api.World, f []byte) map[uint8]api.World {
	at := func(count, at int) api.World {
		w := full(w, count)
		w.Bag[at] = f
		return w
	}
	return map[uint8]api.World{0: at(1, 0), 1: at(2, 1), 2: at(5, 2), 3: at(api.MaxBag, 3), 63: at(api.MaxBag, api.MaxBag-1)}
}

// P8.2: a frame that can't be read is gone, and nothing else.
func TestDeliverUnreadable(t *testing.T) {
	w := rightWorld(t)
	sealed := func(b ...byte) []byte {
		f, _ := wire.Seal(b)
		return f
	}
	cut := slices.Clone(w.Bag[0])
	sum := slices.Clone(w.Bag[0])
	sum[len(sum)-1]++
	for name, c := range map[string]struct {
		f    []byte
		code api.Code
	}{
		"none":               {nil, api.BadFrame},
		"empty":              {[]byte{}, api.BadFrame},
		"cut":                {cut[:len(cut)-1], api.BadFrame},
		"longer":             {append(slices.Clone(cut), 0), api.BadFrame},
		"another sum":        {sum, api.BadSum},
		"an empty payload":   {sealed(), api.BadNote},
		"no such Kind":       {sealed(3, 0, 1, 0, 0, 0, 1, 0), api.BadNote},
		"cut in the payload": {sealed(1, 0, 1, 0, 0, 0, 1, 0, 255), api.BadNote},
		"to itself":          {sealed(1, 1, 1, 0, 0, 0, 1, 0, 255, 0), api.BadNote},
		"to none, and so":    {sealed(1, 0, 9, 0, 0, 0, 1, 0, 255, 0), api.BadNote},
	} {
		for at, w := range amid(w, c.f) {
			delivered(t, name, w, at, c.code, nothing)
		}
	}
}

// P8.2: a frame for whom there is no replica is gone, be it a Pull or a Batch.
func TestDeliverToNobody(t *testing.T) {
	for _, to := range []uint8{3, 4, 7} {
		pull := api.Note{Kind: api.Pull, From: 1, To: to, Num: 3, Filter: 255}
		batch := api.Note{Kind: api.Batch, From: 0, To: to, Num: 3, Done: true}
		for _, n := range []api.Note{pull, batch} {
			for at, w := range amid(rightWorld(t), frame(t, n)) {
				delivered(t, "to nobody", w, at, api.Nobody, nothing)
			}
		}
	}
	// The last replica is one; and from whom a Pull is need not be there.
	w := rightWorld(t)
	pull := api.Note{Kind: api.Pull, From: 7, To: 2, Num: 3}
	batch := api.Note{Kind: api.Batch, From: 2, To: 7, Num: 3, Epoch: 1, Entries: entries(ghost(8, ver(2, 1, 1), 7)), Next: 9, Done: true, Offer: runs(run(2, 1, 1))}
	delivered(t, "from nobody", bagIs(w, frame(t, pull)), 0, 0, func(w *api.World) { w.Bag = [][]byte{frame(t, batch)} })
	delivered(t, "back to nobody", bagIs(w, frame(t, batch)), 0, api.Nobody, nothing)
}

// P8.2: a Pull is answered: the Batch is behind all in the Bag, also in a full one, and no replica is altered.
func TestDeliverPull(t *testing.T) {
	w := rightWorld(t)
	for _, p := range []api.Note{
		noteAt(t, w, 0),
		{Kind: api.Pull, From: 1, To: 0, Num: 1, Filter: 1},
		{Kind: api.Pull, From: 2, To: 1, Num: most, Filter: 255},
		{Kind: api.Pull, From: 0, To: 2, Num: 1, Filter: 255, Know: runs(run(2, 1, 1))},
	} {
		b, e := source.Answer(w.Reps[p.To], p)
		if e != nil {
			t.Fatal(e)
		}
		for at, w := range amid(w, frame(t, p)) {
			delivered(t, "a Pull", w, at, 0, func(w *api.World) { w.Bag = append(w.Bag, frame(t, b)) })
		}
	}
	p := noteAt(t, w, 0)
	want := api.Note{Kind: api.Batch, From: 0, To: 1, Num: 3, Cursor: 8, Epoch: 2, Entries: entries(valued(9, ver(0, 5, 1), 8)), Next: 10, Done: true}
	delivered(t, "by hand", bagIs(w, frame(t, p)), 0, 0, func(w *api.World) { w.Bag = [][]byte{frame(t, want)} })
}

// P8.2: a Pull that is refused, as what is offered would need too many runs, is gone, and nothing comes of it.
func TestDeliverPullRefused(t *testing.T) {
	w := newWorld(t, 1, 1)
	w.Reps[0].Know = append(singles(4, api.MaxRuns-1), run(5, 1, 3))
	w.Reps[0].Held = entries(ghost(1, ver(5, 2, 1), 3))
	p := api.Note{Kind: api.Pull, From: 1, To: 0, Num: 1, Filter: 255}
	for at, w := range amid(w, frame(t, p)) {
		delivered(t, "refused", w, at, api.TooMany, nothing)
	}
	p.Filter = 1
	b, _ := source.Answer(w.Reps[0], p)
	delivered(t, "of another filter", bagIs(w, frame(t, p)), 0, 0, func(w *api.World) { w.Bag = [][]byte{frame(t, b)} })
}

// waitingWorld is a world of three replicas, of which the last one waits for a first Batch from 0, and a Batch that it takes, with more behind it.
func waitingWorld(t *testing.T) (api.World, api.Note) {
	t.Helper()
	w := newWorld(t, 255, 255, 0b1011)
	w.Reps[2].Session = on(5, 0)
	first := api.Note{
		Kind: api.Batch, From: 0, To: 2, Num: 5, Epoch: 7,
		Entries: entries(valued(1, ver(0, 1, 1), 8), valued(2, ver(0, 2, 1), 10), dead(4, ver(0, 4, 2)), ghost(6, ver(0, 5, 1), 3)),
		Next:    7, Offer: runs(run(0, 1, 4), run(0, 6, 6)),
	}
	return w, first
}

// P8.2: a Batch that isn't Done is taken, and the Pull is behind all in the Bag, also in a full one.
func TestDeliverBatchWithMore(t *testing.T) {
	w, first := waitingWorld(t)
	pull := api.Note{Kind: api.Pull, From: 2, To: 0, Num: 5, Cursor: 7, Filter: 0b1011, Know: runs(run(0, 1, 2), run(0, 4, 4))}
	for at, w := range amid(w, frame(t, first)) {
		delivered(t, "with more", w, at, 0, func(w *api.World) {
			r := &w.Reps[2]
			r.Know, r.Held = pull.Know, entries(first.Entries[0], ghost(2, ver(0, 2, 1), 2), first.Entries[2], first.Entries[3])
			r.Session.Cursor, r.Session.Epoch, r.Session.Offer = 7, 7, first.Offer
			w.Bag = append(w.Bag, frame(t, pull))
		})
	}
}

// P8.2: a Batch that is Done is taken, and nothing is sent.
func TestDeliverBatchWithoutMore(t *testing.T) {
	w, first := waitingWorld(t)
	first.Done = true
	for at, w := range amid(w, frame(t, first)) {
		delivered(t, "without more", w, at, 0, func(w *api.World) {
			r := &w.Reps[2]
			r.Know, r.Held = runs(run(0, 1, 4), run(0, 6, 6)), entries(first.Entries[0], ghost(2, ver(0, 2, 1), 2), first.Entries[2], first.Entries[3])
			r.Session = api.Session{Last: 5}
		})
	}
}

// P8.2: a Batch that is refused is gone, and nothing comes of it.
func TestDeliverBatchRefused(t *testing.T) {
	for name, c := range map[string]struct {
		alter func(w *api.World, b *api.Note)
		code  api.Code
	}{
		"to one that doesn't wait": {func(w *api.World, b *api.Note) { b.To = 1 }, api.Stale},
		"left":                     {func(w *api.World, b *api.Note) { w.Reps[2].Session = api.Session{Last: 5} }, api.Stale},
		"of another Session":       {func(w *api.World, b *api.Note) { b.Num = 4 }, api.Stale},
		"from another one":         {func(w *api.World, b *api.Note) { b.From = 1 }, api.Stale},
		"at another Cursor":        {func(w *api.World, b *api.Note) { b.Cursor, b.Offer = 1, nil }, api.Stale},
		"offers what wasn't made":  {func(w *api.World, b *api.Note) { b.Offer = runs(run(2, 1, 1)) }, api.Wrong},
		"tells one version twice":  {func(w *api.World, b *api.Note) { b.Entries[3].Ver = b.Entries[2].Ver }, api.Wrong},
		"would make too many runs": {func(w *api.World, b *api.Note) { w.Reps[2].Know = singles(1, api.MaxRuns) }, api.TooMany},
		"would, by what is offered": {func(w *api.World, b *api.Note) {
			w.Reps[2].Know, b.Done, b.Offer = singles(1, api.MaxRuns-2), true, runs(run(6, 1, 1))
		}, api.TooMany},
	} {
		w, b := waitingWorld(t)
		c.alter(&w, &b)
		for at, w := range amid(w, frame(t, b)) {
			delivered(t, name, w, at, c.code, nothing)
		}
	}
}

// P8.2: with Ended the frame is gone, and the Session is left: nothing else is altered.
func TestDeliverEnded(t *testing.T) {
	w, _ := waitingWorld(t)
	w.Reps[2].Session.Cursor, w.Reps[2].Session.Epoch, w.Reps[2].Session.Offer = 7, 7, runs(run(0, 1, 9))
	b := api.Note{Kind: api.Batch, From: 0, To: 2, Num: 5, Cursor: 7, Epoch: 8, Entries: entries(valued(8, ver(0, 7, 1), 8)), Next: 9, Done: true}
	for at, w := range amid(w, frame(t, b)) {
		delivered(t, "ended", w, at, api.Ended, func(w *api.World) { w.Reps[2].Session = api.Session{Last: 5} })
	}
	b.Epoch = 7
	delivered(t, "not ended", bagIs(w, frame(t, b)), 0, 0, func(w *api.World) {
		w.Reps[2].Session, w.Reps[2].Know, w.Reps[2].Held = api.Session{Last: 5}, runs(run(0, 1, 9)), b.Entries
	})
}

// P8.2: the frame at B is the first, the last, one above, and there is none: of each Kind that names a frame.
func TestOfEachFrame(t *testing.T) {
	w := rightWorld(t)
	for _, count := range []int{0, 1, 2, 5, api.MaxBag - 1} {
		w := full(w, count)
		for _, b := range []int{count, count + 1, 64, 255} {
			for _, a := range []api.Act{deliver(uint8(b)), drop(uint8(b)), double(uint8(b)), spoil(uint8(b), 65536)} {
				fails(t, "no frame", w, a, api.Nothing)
			}
		}
		for b := range count {
			delivered(t, "delivered", w, uint8(b), api.BadFrame, nothing)
			comes(t, "dropped", w, drop(uint8(b)), altered(w, func(w *api.World) { w.Bag = slices.Delete(w.Bag, b, b+1) }), 0)
			comes(t, "copied", w, double(uint8(b)), altered(w, func(w *api.World) { w.Bag = append(w.Bag, w.Bag[b]) }), 0)
			comes(t, "spoiled", w, spoil(uint8(b), 65536), w, 0)
		}
	}
	// The other Kinds name none: B may be any, where it is no item, filter or replica.
	for _, a := range []api.Act{again(1), quit(1)} {
		for _, b := range []uint8{0, 3, 63, 255} {
			a.B = b
			behind(t, w, a)
		}
	}
}

// P8.2: a frame that is dropped or copied may be any, also none that can be read.
func TestDropAndCopyAny(t *testing.T) {
	w := rightWorld(t)
	for _, f := range [][]byte{nil, {}, {7}, w.Bag[0], w.Bag[2], make([]byte, 70000)} {
		for at, w := range amid(w, f) {
			comes(t, "dropped", w, drop(at), altered(w, func(w *api.World) { w.Bag = slices.Delete(w.Bag, int(at), int(at)+1) }), 0)
			if len(w.Bag) < api.MaxBag {
				comes(t, "copied", w, double(at), altered(w, func(w *api.World) { w.Bag = append(w.Bag, f) }), 0)
			}
		}
	}
	// Numbers and replicas that aren't needed alter nothing.
	for _, a := range []api.Act{drop(1), double(1), deliver(1)} {
		out, m := bag.Do(w, a)
		a.A, a.N = 200, most
		marked(t, "of any", w, a, out, m)
	}
}

// spoiledAt is a world in which the byte of a frame is altered.
func spoiledAt(w api.World, b, at int, by byte) api.World {
	return altered(w, func(w *api.World) { w.Bag[b][at] ^= by })
}

// P8.2: which byte is altered, and by what.
func TestSpoil(t *testing.T) {
	w := rightWorld(t)
	for _, b := range []int{0, 2} {
		size := len(w.Bag[b])
		for _, place := range []int{0, 1, 2, size - 1, size, size + 1, 3*size - 1, 65535} {
			for _, by := range []int{0, 1, 2, 128, 255, 256, 257, 511, 65535} {
				want := spoiledAt(w, b, place%size, byte(by))
				comes(t, "spoiled", w, spoil(uint8(b), uint32(by*65536+place)), want, 0)
			}
		}
		comes(t, "by 0, at the first", w, spoil(uint8(b), 0), w, 0)
		comes(t, "by 256, at the last", w, spoil(uint8(b), uint32(256*65536+size-1)), w, 0)
	}
	a := spoil(2, 3*65536+5)
	a.A = 255
	comes(t, "whatever A is", w, a, spoiledAt(w, 2, 5, 3), 0)
}

// P8.2: a frame that can be read is spoiled, also if it is for nobody, or would be refused.
func TestSpoilForNobody(t *testing.T) {
	w := rightWorld(t)
	for _, n := range []api.Note{
		{Kind: api.Pull, From: 0, To: 7, Num: 1},
		{Kind: api.Batch, From: 2, To: 0, Num: 1, Done: true},
	} {
		w := bagIs(w, frame(t, n))
		comes(t, "spoiled", w, spoil(0, 65536+9), spoiledAt(w, 0, 9, 1), 0)
	}
}

// P8.2: a frame that can't be read stays as it is, and nothing goes wrong.
func TestSpoilUnreadable(t *testing.T) {
	w := rightWorld(t)
	sum := spoiledAt(w, 0, 12, 4).Bag[0]
	bad, _ := wire.Seal([]byte{1, 1, 1, 0, 0, 0, 1, 0, 255, 0})
	for _, f := range [][]byte{nil, {}, {0}, {0, 0, 1}, w.Bag[0][:9], make([]byte, 5000), sum, bad} {
		for at, w := range amid(w, f) {
			for _, n := range []uint32{0, 65536, 65536 + 1, 4*65536 + 12, 255*65536 + 65535, most} {
				comes(t, "stays", w, spoil(at, n), w, 0)
			}
		}
	}
}

// P8.2: what is spoiled stays spoiled: it can't be made a note again by one more alteration.
func TestSpoilTwice(t *testing.T) {
	w := rightWorld(t)
	once := behind(t, w, spoil(2, 8*65536+20))
	comes(t, "the same again", once, spoil(2, 8*65536+20), once, 0)
	delivered(t, "spoiled twice", once, 2, api.BadSum, nothing)
}

// P8.2: what is spoiled is delivered: it is gone, and changes nobody, whichever byte was altered.
func TestSpoilAndDeliver(t *testing.T) {
	w := rightWorld(t)
	for _, b := range []int{0, 2} {
		for at := range w.Bag[b] {
			for _, by := range []int{1, 16, 128, 255} {
				// The first two bytes tell how long the frame is.
				code := api.BadSum
				if at < 2 {
					code = api.BadFrame
				}
				spoiled := spoiledAt(w, b, at, byte(by))
				comes(t, "spoiled", w, spoil(uint8(b), uint32(by*65536+at)), spoiled, 0)
				delivered(t, "delivered", spoiled, uint8(b), code, nothing)
			}
		}
	}
}

// P8.2: a Bag of one fewer than MaxBag has room for one more, one of MaxBag none.
func TestFullBag(t *testing.T) {
	w := rightWorld(t)
	pull := frame(t, noteAt(t, w, 0))
	begun, first, _ := target.Begin(w.Reps[2], 1)
	room := full(w, api.MaxBag-1)
	comes(t, "begin", room, begin(2, 1), altered(room, func(w *api.World) { w.Reps[2], w.Bag = begun, append(w.Bag, frame(t, first)) }), 0)
	comes(t, "again", room, again(1), altered(room, func(w *api.World) { w.Bag = append(w.Bag, pull) }), 0)
	comes(t, "copy", room, double(62), altered(room, func(w *api.World) { w.Bag = append(w.Bag, w.Bag[62]) }), 0)
	none := full(w, api.MaxBag)
	for _, a := range []api.Act{begin(2, 1), again(1), double(0), double(63)} {
		fails(t, "no room", none, a, api.TooMany)
	}
	// All else goes on.
	for _, a := range []api.Act{put(0, 1, 1), erase(0, 2), get(0, 2), filter(0, 1), quit(1), drop(63), spoil(63, 65536)} {
		behind(t, none, a)
		fails(t, "one frame too many", full(w, api.MaxBag+1), a, api.Wrong)
	}
	for _, a := range []api.Act{begin(2, 1), again(1), double(0), deliver(0)} {
		fails(t, "one frame too many", full(w, api.MaxBag+1), a, api.Wrong)
	}
}

// P8.2: in a full Bag a Pull is delivered, and its Batch, and so on, until all has come.
func TestDeliverInFullBag(t *testing.T) {
	w := newWorld(t, 255, 255)
	for id := range uint8(9) {
		w = behind(t, w, put(0, id, uint32(id)))
	}
	w.Bag = full(w, api.MaxBag-1).Bag
	w = behind(t, w, begin(1, 0))
	for turn := range 6 {
		if len(w.Bag) != api.MaxBag {
			t.Fatalf("turn %v: %v frames", turn, len(w.Bag))
		}
		if n := noteAt(t, w, api.MaxBag-1); n.Kind != api.Pull-turn%2*(api.Pull-api.Batch) {
			t.Fatalf("turn %v: %+v", turn, n)
		}
		w = behind(t, w, deliver(api.MaxBag-1))
	}
	if len(w.Bag) != api.MaxBag-1 || w.Reps[1].Session.On || !slices.Equal(w.Reps[1].Held, w.Reps[0].Held) {
		t.Errorf("%+v", w)
	}
}

// P8.2: each Kind there is, and those beside them.
func TestEachKind(t *testing.T) {
	w := rightWorld(t)
	for kind := api.DoPut; kind <= api.DoSpoil; kind++ {
		if _, m := bag.Do(w, api.Act{Kind: kind, A: 1, B: 0, N: 1}); m.Err == api.Wrong {
			t.Errorf("Kind %v: %v", kind, m)
		}
	}
	for _, kind := range []int{0, 12, -1, 13, 255, 256 + api.DoGet, -api.DoPut, 1 << 32, 1<<32 + api.DoPut, 1<<63 - 1, -1 << 63} {
		for _, a := range []uint8{0, 2, 3, 255} {
			fails(t, "no such Kind", w, api.Act{Kind: kind, A: a, B: a, N: 1}, api.Wrong)
		}
	}
}
