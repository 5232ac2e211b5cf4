package audit_test

import (
	"fmt"
	"slices"
	"testing"

	"tidings/api"
	"tidings/bag"
)

// This file has P10.2, and P10.4 where a fetch is told of one by one.

// itemsOf gives a world of 0, that has written count items of the class 0, and of others with these filters.
func itemsOf(t *testing.T, count int, filters ...uint8) api.World {
	t.Helper()
	w := newWorld(t, append([]uint8{255}, filters...)...)
	for id := range count {
		w = behind(t, w, put(0, uint8(id), 8*uint32(id)))
	}
	return w
}

// P10.2, P10.4: fetches of nothing, of one entry, of as many as fill batches just, of one more: two deliveries for each batch, one batch at least.
func TestFetchOfSoMany(t *testing.T) {
	for count := range api.MaxItems + 1 {
		w := itemsOf(t, count, 255)
		out := fetched(t, w, 1, 0, 2*max(1, (count+3)/4))
		isRight(t, fmt.Sprint(count), out)
		want := altered(w, func(w *api.World) {
			w.Reps[1].Know, w.Reps[1].Held, w.Reps[1].Session = w.Reps[0].Know, w.Reps[0].Held, api.Session{Last: 1}
		})
		fetches(t, fmt.Sprint(count), w, 1, 0, want, 2*max(1, (count+3)/4), 0)
	}
}

// P10.2: the same for what comes beside what is known.
func TestFetchOfMore(t *testing.T) {
	for before := range 10 {
		for more := range 10 {
			w := fetched(t, itemsOf(t, before, 255), 1, 0, 2*max(1, (before+3)/4))
			for id := range uint8(more) {
				w = behind(t, w, put(0, 20+id, 7))
			}
			out := fetched(t, w, 1, 0, 2*max(1, (more+3)/4))
			if !slices.Equal(out.Reps[1].Held, out.Reps[0].Held) || !slices.Equal(out.Reps[1].Know, out.Reps[0].Know) {
				t.Errorf("%v and %v: %+v", before, more, out.Reps[1])
			}
		}
	}
}

// P10.2, P10.4: between equal filters, all that is held is read behind it, by each of both.
func TestFetchBetweenEqual(t *testing.T) {
	for _, f := range []uint8{255, 3} {
		w := behind(t, newWorld(t, f, f), put(0, 1, 8), put(0, 2, 9), put(1, 3, 16), put(1, 4, 17), erase(1, 4))
		w = fetched(t, w, 1, 0, 2)
		w = fetched(t, w, 0, 1, 2)
		for _, a := range []uint8{0, 1} {
			reads(t, w, a, 1, 8)
			reads(t, w, a, 2, 9)
			reads(t, w, a, 3, 16)
			lacks(t, w, a, 4)
			known(t, w, a, run(0, 1, 2), run(1, 1, 3))
		}
		isRight(t, "equal", w)
	}
}

// P10.2, P10.4: from a wider one: what isn't in the filter is held as a Ghost, and known.
func TestFetchFromWider(t *testing.T) {
	w := behind(t, newWorld(t, 255, 1), put(0, 1, 8), put(0, 2, 9), put(0, 3, 10), erase(0, 3))
	w = fetched(t, w, 1, 0, 2)
	known(t, w, 1, run(0, 1, 4))
	reads(t, w, 1, 1, 8)
	lacks(t, w, 1, 2)
	holds(t, w, 1, ghost(2, ver(0, 2, 1), 1))
	holds(t, w, 1, dead(3, ver(0, 4, 2)))
	isRight(t, "wider", w)
}

// P10.2, P10.4: from a narrower one: what that has as a Ghost is wanted, and not known; from a wider one it is fetched then.
func TestFetchFromNarrower(t *testing.T) {
	w := behind(t, newWorld(t, 255, 1, 255), put(0, 1, 8), put(0, 2, 9), put(0, 3, 10))
	w = fetched(t, w, 1, 0, 2)
	w = fetched(t, w, 2, 1, 2)
	known(t, w, 2, run(0, 1, 1))
	reads(t, w, 2, 1, 8)
	lacks(t, w, 2, 2)
	holds(t, w, 2, ghost(2, ver(0, 2, 1), 1))
	isRight(t, "narrower", w)
	w = fetched(t, w, 2, 0, 2)
	known(t, w, 2, run(0, 1, 3))
	reads(t, w, 2, 2, 9)
	reads(t, w, 2, 3, 10)
	isRight(t, "wider", w)
}

// P10.2, P10.4: behind a filter that has grown what was a Ghost is wanted, and fetched; of several batches, too.
func TestFetchOfWanted(t *testing.T) {
	for _, count := range []int{1, 4, 5, 9} {
		w := fetched(t, itemsOf(t, count, 2), 1, 0, 2*((count+3)/4))
		known(t, w, 1, run(0, 1, uint32(count)))
		lacks(t, w, 1, 0)
		fetched(t, w, 1, 0, 2)
		w = behind(t, w, filter(1, 3))
		known(t, w, 1)
		w = fetched(t, w, 1, 0, 2*((count+3)/4))
		known(t, w, 1, run(0, 1, uint32(count)))
		for id := range uint8(count) {
			reads(t, w, 1, id, 8*uint32(id))
		}
		isRight(t, "wanted", w)
	}
}

// P10.2, P10.4: what is deleted, at either of both.
func TestFetchOfDeleted(t *testing.T) {
	w := fetched(t, itemsOf(t, 3, 255), 1, 0, 2)
	w = behind(t, w, erase(0, 1), erase(1, 2))
	w = fetched(t, w, 1, 0, 2)
	w = fetched(t, w, 0, 1, 2)
	for _, a := range []uint8{0, 1} {
		reads(t, w, a, 0, 0)
		lacks(t, w, a, 1)
		lacks(t, w, a, 2)
		holds(t, w, a, dead(1, ver(0, 4, 2)))
		holds(t, w, a, dead(2, ver(1, 1, 2)))
	}
	isRight(t, "deleted", w)
}

// P10.2, P10.4: an item that both wrote: the greater version is held, whoever fetches.
func TestFetchOfBoth(t *testing.T) {
	w := behind(t, newWorld(t, 255, 255), put(0, 1, 8), put(1, 1, 9), put(0, 2, 16), put(0, 2, 24), put(1, 2, 17))
	for _, first := range []uint8{0, 1} {
		out := fetched(t, w, first, 1-first, 2)
		isRight(t, "one", out)
		reads(t, out, first, 1, 9)
		reads(t, out, first, 2, 24)
		out = fetched(t, out, 1-first, first, 2)
		for _, a := range []uint8{0, 1} {
			reads(t, out, a, 1, 9)
			reads(t, out, a, 2, 24)
			known(t, out, a, run(0, 1, 3), run(1, 1, 2))
		}
		isRight(t, "both", out)
	}
}

// P10.2: two fetches, one behind the other: the second one has nothing to bring.
func TestFetchTwice(t *testing.T) {
	w := fetched(t, itemsOf(t, 9, 15), 1, 0, 6)
	want := altered(w, func(w *api.World) { w.Reps[1].Session.Last = 2 })
	fetches(t, "again", w, 1, 0, want, 2, 0)
	fetches(t, "the other way about", w, 0, 1, altered(w, func(w *api.World) { w.Reps[0].Session.Last = 1 }), 2, 0)
	w = behind(t, want, put(0, 63, 8))
	w = fetched(t, w, 1, 0, 2)
	reads(t, w, 1, 63, 8)
}

// P10.2: a fetch that goes wrong at its beginning: no delivery, and nothing changes.
func TestFetchNotBegun(t *testing.T) {
	w := worldOfAll(t)
	w.Bag = [][]byte{{1}, {2}}
	begins := func(name string, w api.World, to, from uint8, code api.Code) {
		t.Helper()
		fetches(t, name, w, to, from, w, 0, code)
	}
	for _, to := range []uint8{ring, api.MaxReps - 1, api.MaxReps, 255} {
		for _, from := range []uint8{0, ring, api.MaxReps, to} {
			begins("by nobody", w, to, from, api.Nobody)
		}
	}
	for to := range uint8(ring) {
		begins("from itself", w, to, to, api.Wrong)
		begins("from MaxReps", w, to, api.MaxReps, api.Wrong)
		begins("from 255", w, to, 255, api.Wrong)
		begins("a full Bag", full(w, api.MaxBag), to, next(to), api.TooMany)
		begins("a full Bag, from itself", full(w, api.MaxBag), to, to, api.TooMany)
		begins("the last number", altered(w, func(w *api.World) { w.Reps[to].Session.Last = most }), to, next(to), api.TooMany)
		begins("the last number, from itself", altered(w, func(w *api.World) { w.Reps[to].Session.Last = most }), to, to, api.Wrong)
		fetches(t, "the last number of another one", altered(w, func(w *api.World) { w.Reps[to].Session.Last = most }), next(to), to,
			altered(w, func(w *api.World) { w.Reps[to].Session.Last = most; w.Reps[next(to)].Session.Last++ }), 2, 0)
		begins("one frame too many", full(w, api.MaxBag+1), to, next(to), api.Wrong)
		begins("a replica that isn't right", altered(w, func(w *api.World) { w.Reps[3].Know[0].From = 0 }), to, next(to), api.Wrong)
		begins("no world", api.World{}, to, next(to), api.Wrong)
	}
	begins("a full Bag, by nobody", full(w, api.MaxBag), ring, 0, api.Nobody)
	begins("not right, by nobody", full(w, api.MaxBag+1), ring, 0, api.Wrong)
}

// P10.2: from one that there may be, and isn't: the Pull is delivered to nobody, and t's Session stays On.
func TestFetchFromNobody(t *testing.T) {
	w := worldOfAll(t)
	w.Bag = [][]byte{{1}, {2}}
	for to := range uint8(ring) {
		for from := uint8(ring); from < api.MaxReps; from++ {
			want := altered(w, func(w *api.World) {
				num := w.Reps[to].Session.Last + 1
				w.Reps[to].Session = api.Session{On: true, Num: num, From: from, Last: num}
			})
			fetches(t, fmt.Sprintf("%v from %v", to, from), w, to, from, want, 1, api.Nobody)
		}
	}
}

// P10.2: a fetch that goes wrong on its way, where the source can't answer, or the target can't take in what is answered, the first Batch or a later one: what went right stays.
func TestFetchWrongOnItsWay(t *testing.T) {
	w := itemsOf(t, 6, 255)
	on := func(w *api.World) { w.Reps[1].Session = api.Session{On: true, Num: 1, From: 0, Last: 1} }

	// 0 knows of 1 what 1 never wrote.
	claims := altered(w, func(w *api.World) { learn(&w.Reps[0], 1, 1) })
	fetches(t, "claimed", claims, 1, 0, altered(claims, on), 2, api.Wrong)

	// What 0 offers needs too many runs: it knows the even numbers, and holds a Ghost in the midst of a run.
	many := altered(w, func(w *api.World) {
		r := &w.Reps[0]
		r.Know = runs(run(0, 1, 6), run(2, 1, 3))
		for i := range uint32(api.MaxRuns - 2) {
			r.Know = append(r.Know, run(2, 2*i+5, 2*i+5))
		}
		take(r, ghost(20, ver(2, 2, 1), 3))
	})
	fetches(t, "too many offered", many, 1, 0, altered(many, on), 1, api.TooMany)

	// 1 has as many runs as it may, and knows one more by the second Batch.
	later := altered(w, func(w *api.World) {
		w.Reps[0].Held[5] = valued(5, ver(2, 500, 1), 40)
		learn(&w.Reps[0], 2, 500)
		for i := range uint32(api.MaxRuns - 1) {
			learn(&w.Reps[1], 2, 2*i+1)
		}
	})
	want := altered(later, func(w *api.World) {
		on(w)
		r := &w.Reps[1]
		take(r, w.Reps[0].Held[:4]...)
		r.Know = slices.Insert(r.Know, 0, run(0, 1, 4))
		r.Session.Cursor, r.Session.Offer = 4, w.Reps[0].Know
	})
	fetches(t, "too many, later", later, 1, 0, want, 4, api.TooMany)
	for _, w := range []api.World{claims, many, later} {
		want, n, m := meantFetch(w, 1, 0)
		fetches(t, "as it is meant", w, 1, 0, want, n, m.Err)
	}
}

// P10.2: one whose Session is On already, ahead of its first Batch or between two: it is left, and what was on the way stays.
func TestFetchInstead(t *testing.T) {
	ahead := behind(t, itemsOf(t, 9, 255, 255), begin(1, 0))
	ahead = behind(t, ahead, begin(1, 2))
	between := behind(t, itemsOf(t, 9, 255, 255), begin(1, 0), deliver(0), deliver(0), deliver(0))
	for _, w := range []api.World{ahead, between} {
		r := w.Reps[1]
		left := 9 - len(r.Held)
		out := fetched(t, w, 1, 0, 2*((left+3)/4))
		want := altered(w, func(w *api.World) {
			w.Reps[1].Session = api.Session{Last: r.Session.Last + 1}
			w.Reps[1].Know, w.Reps[1].Held = w.Reps[0].Know, w.Reps[0].Held
		})
		fetches(t, "instead", w, 1, 0, want, 2*((left+3)/4), 0)
		isRight(t, "instead", out)
		// The frames of the other one come too late.
		for range len(out.Bag) {
			out, _ = bag.Do(out, deliver(last(out)))
		}
		fetches(t, "from another one", w, 1, 2, altered(w, func(w *api.World) {
			w.Reps[1].Session = api.Session{Last: r.Session.Last + 1}
		}), 2, 0)
	}
	if between.Reps[1].Session.Cursor != 4 {
		t.Errorf("%+v", between.Reps[1].Session)
	}
}

// P10.2: other frames in the Bag, of whatever kind, stay as they are, one less than MaxBag at most.
func TestFetchBesideFrames(t *testing.T) {
	w := itemsOf(t, 9, 255, 255)
	w = behind(t, w, begin(2, 0), begin(2, 1), begin(0, 1), deliver(0), double(1), spoil(2, 7<<16+3))
	for _, frames := range [][][]byte{nil, w.Bag, {nil}, {{1}, nil, {2}}, full(w, api.MaxBag-2).Bag, full(w, api.MaxBag-1).Bag} {
		w := altered(w, func(w *api.World) { w.Bag = frames })
		out := fetched(t, w, 1, 0, 6)
		want := altered(w, func(w *api.World) {
			w.Reps[1].Know, w.Reps[1].Held, w.Reps[1].Session = w.Reps[0].Know, w.Reps[0].Held, api.Session{Last: 1}
		})
		if !alike(out, want) {
			t.Errorf("%v frames: %s", len(frames), difference(out, want))
		}
		fetches(t, fmt.Sprint(len(frames), " frames, from nobody"), w, 1, 7, altered(w, func(w *api.World) {
			w.Reps[1].Session = api.Session{On: true, Num: 1, From: 7, Last: 1}
		}), 1, api.Nobody)
	}
}

// P10.2: the target alone is altered, and what is made stays.
func TestFetchAltersOne(t *testing.T) {
	w := worldOfAll(t)
	for rep := range uint8(ring) {
		w = behind(t, w, put(rep, 50+rep, 4), erase(rep, kept(rep)), begin(rep, next(rep)))
	}
	pairs(w, func(to, from uint8) {
		out := fetched(t, w, to, from, 2)
		for i := range w.Reps {
			if i == int(to) {
				out.Reps[i] = w.Reps[i]
			}
		}
		if !alike(out, w) {
			t.Errorf("%v from %v: %s", to, from, difference(out, w))
		}
	})
}

// P10.4: the most that there may be to fetch: all items, of all replicas, between each two.
func TestFetchOfAll(t *testing.T) {
	w := newWorld(t, slices.Repeat([]uint8{255}, api.MaxReps)...)
	for id := range uint8(api.MaxItems) {
		w = behind(t, w, put(id%api.MaxReps, id, uint32(id)))
	}
	for rep := range uint8(api.MaxReps - 1) {
		w = fetched(t, w, rep+1, rep, 2*(2*int(rep)+2))
	}
	w = fetched(t, w, 0, api.MaxReps-1, 28)
	for id := range uint8(api.MaxItems) {
		reads(t, w, 0, id, uint32(id))
	}
	isRight(t, "all", w)
	// 1 has the items of two.
	w = fetched(t, w, 1, 0, 24)
	if !slices.Equal(w.Reps[1].Held, w.Reps[0].Held) || !slices.Equal(w.Reps[1].Know, w.Reps[0].Know) {
		t.Errorf("%+v, not %+v", w.Reps[1], w.Reps[0])
	}
}
