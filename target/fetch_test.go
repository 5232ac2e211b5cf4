package target_test

import (
	"errors"
	"slices"
	"strconv"
	"testing"

	"tidings/api"
	"tidings/item"
	"tidings/replica"
	"tidings/source"
	"tidings/target"
)

// written gives a replica behind what it writes: in place i the value of the item ids[i].
func written(t *testing.T, r api.Replica, ids []uint8, values []uint32) api.Replica {
	t.Helper()
	for i, id := range ids {
		var e error
		if r, e = replica.Put(r, id, values[i]); e != nil {
			t.Fatal(e)
		}
	}
	return r
}

// fetched gives t behind a fetch from s, batch by batch, and how many there were.
func fetched(t *testing.T, r, s api.Replica) (api.Replica, int) {
	t.Helper()
	r, pull, e := target.Begin(r, s.Rep)
	if e != nil {
		t.Fatal(e)
	}
	for n := 1; n <= api.MaxItems; n++ {
		b, e := source.Answer(s, pull)
		if e != nil {
			t.Fatal(e)
		}
		out, next, more, e := target.Accept(r, b)
		if e != nil {
			t.Fatal(e)
		}
		if more == b.Done || more != out.Session.On || !replica.Right(out) || !alikeNotes(next, pullOf(out)) {
			t.Fatalf("%+v\n%+v %v", out, next, more)
		}
		if r, pull = out, next; !more {
			return r, n
		}
	}
	t.Fatal("no end")
	return r, 0
}

// sourceOf is a replica 1 that holds Real entries of 0, 2, 6 and 8, a Dead one of 4, and a Ghost of 10, and knows the versions 1 to 7; and a replica 2, of all classes, that fetched from it ahead of its filter.
func sourceOf(t *testing.T) (api.Replica, api.Replica) {
	t.Helper()
	s, _ := replica.New(1, 0b111)
	s = written(t, s, []uint8{0, 2, 4, 6, 8, 10}, []uint32{8, 9, 10, 16, 17, 18})
	s, _ = replica.Delete(s, 4)
	wide, _ := replica.New(2, 255)
	wide, _ = fetched(t, wide, s)
	s, e := replica.Change(s, 0b011)
	if e != nil {
		t.Fatal(e)
	}
	return s, wide
}

// targetOf is a replica 0, of the classes 0 and 2, that holds what it wrote.
func targetOf(t *testing.T) api.Replica {
	t.Helper()
	r, _ := replica.New(0, 0b101)
	return written(t, r, []uint8{20}, []uint32{24})
}

// P7.1, P7.2: a fetch, batch by batch, from a replica that answers by layer 6, with Real, Ghost and Dead entries.
func TestFetch(t *testing.T) {
	s, wide := sourceOf(t)
	r, pull, e := target.Begin(targetOf(t), 1)
	if want := (api.Note{Kind: api.Pull, From: 0, To: 1, Num: 1, Filter: 0b101, Know: runs(run(0, 1, 1))}); e != nil || !alikeNotes(pull, want) {
		t.Fatalf("begun: %+v %v", pull, e)
	}
	b, _ := source.Answer(s, pull)
	want := api.Replica{
		Rep: 0, Filter: 0b101, Seq: 1, Know: runs(run(0, 1, 1), run(1, 1, 2), run(1, 4, 4), run(1, 7, 7)),
		Held: entries(valued(0, ver(1, 1, 1), 8), ghost(2, ver(1, 2, 1), 1), dead(4, ver(1, 7, 2)), valued(6, ver(1, 4, 1), 16), valued(20, ver(0, 1, 1), 24)),
		// The source's Ghost of 10, of the class 2, isn't offered.
		Session: api.Session{On: true, Num: 1, From: 1, Cursor: 7, Epoch: 1, Offer: runs(run(1, 1, 5), run(1, 7, 7)), Last: 1},
	}
	accepts(t, "first", r, b, want)
	b, _ = source.Answer(s, pullOf(want))
	last := altered(quitted(want), func(r *api.Replica) {
		r.Know = runs(run(0, 1, 1), run(1, 1, 5), run(1, 7, 7))
		r.Held = slices.Insert(r.Held, 4, ghost(8, ver(1, 5, 1), 1), ghost(10, ver(1, 6, 1), 2))
	})
	accepts(t, "second", want, b, last)
	// The value that the first source had no more comes from another one.
	all, n := fetched(t, last, wide)
	value, e := replica.Get(all, 10)
	if n != 1 || e != nil || value != 18 || !slices.Equal(all.Know, runs(run(0, 1, 1), run(1, 1, 7))) || all.Session.Last != 2 {
		t.Errorf("from another one: %+v, %v batches", all, n)
	}
}

// P7.2: nothing is due: one Batch, without Entries, and what is offered is known.
func TestFetchOfNothing(t *testing.T) {
	s, wide := sourceOf(t)
	again, n := fetched(t, wide, s)
	want := altered(wide, func(r *api.Replica) { r.Session.Last++ })
	if n != 1 || !alike(again, want) {
		t.Errorf("%+v, %v batches", again, n)
	}
	// A deleted item was never held here: its versions are known, as they were overtaken.
	none, _ := replica.New(7, 0)
	none, n = fetched(t, none, s)
	if n != 2 || !slices.Equal(none.Know, runs(run(1, 1, 7))) || len(none.Held) != 6 {
		t.Errorf("%+v, %v batches", none, n)
	}
}

// P7.1, P7.2: a Pull that is asked again is answered again: what comes second is Stale, and nothing is taken twice.
func TestFetchAskedAgain(t *testing.T) {
	s, _ := sourceOf(t)
	r, pull, _ := target.Begin(targetOf(t), 1)
	for n := 1; ; n++ {
		again, e := target.Again(r)
		if e != nil || !alikeNotes(again, pull) {
			t.Fatalf("again: %+v %v", again, e)
		}
		b, _ := source.Answer(s, pull)
		twin, _ := source.Answer(s, again)
		out, next, more, e := target.Accept(r, b)
		if e != nil {
			t.Fatal(e)
		}
		refused(t, "the same Batch", out, b, api.Stale)
		refused(t, "its twin", out, twin, api.Stale)
		if r, pull = out, next; !more {
			if n != 2 {
				t.Errorf("%v batches", n)
			}
			return
		}
	}
}

// P7.1, P7.2: a fetch that is quit is begun again, and what came stays: it isn't told twice.
func TestFetchQuit(t *testing.T) {
	s, _ := sourceOf(t)
	r, pull, _ := target.Begin(targetOf(t), 1)
	b, _ := source.Answer(s, pull)
	r, pull, _, _ = target.Accept(r, b)
	left, e := target.Quit(r)
	if e != nil || !alike(left, quitted(r)) {
		t.Fatalf("%+v %v", left, e)
	}
	late, _ := source.Answer(s, pull)
	refused(t, "the next Batch", left, late, api.Stale)
	begun, pull, _ := target.Begin(left, 1)
	refused(t, "the next Batch, begun again", begun, late, api.Stale)
	b, _ = source.Answer(s, pull)
	if len(b.Entries) != 2 || b.Entries[0].ID != 8 || !b.Done {
		t.Errorf("told: %+v", b)
	}
	out, _, more, e := target.Accept(begun, b)
	straight, _ := fetched(t, targetOf(t), s)
	straight.Session.Last = 2
	if more || e != nil || !alike(out, straight) {
		t.Errorf("%+v %v %v, not\n%+v", out, more, e, straight)
	}
}

// P7.1: one begun while another is On: that one's Batches come too late.
func TestFetchBegunWhileOn(t *testing.T) {
	s, wide := sourceOf(t)
	r, pull, _ := target.Begin(targetOf(t), 1)
	b, _ := source.Answer(s, pull)
	r, pull, _, _ = target.Accept(r, b)
	late, _ := source.Answer(s, pull)
	begun, pull, e := target.Begin(r, 2)
	want := r
	want.Session = api.Session{On: true, Num: 2, From: 2, Last: 2}
	if e != nil || !alike(begun, want) {
		t.Fatalf("%+v %v", begun, e)
	}
	refused(t, "the other one's", begun, late, api.Stale)
	refused(t, "the other one's first", begun, b, api.Stale)
	b, _ = source.Answer(wide, pull)
	want = altered(quitted(want), func(r *api.Replica) {
		r.Know = runs(run(0, 1, 1), run(1, 1, 7))
		r.Held = slices.Insert(r.Held, 4, ghost(8, ver(1, 5, 1), 1), valued(10, ver(1, 6, 1), 18))
	})
	accepts(t, "from the second one", begun, b, want)
}

// P7.2: the source's filter changes between two Batches: Ended, and what came stays.
func TestFetchEnded(t *testing.T) {
	s, _ := sourceOf(t)
	r, pull, _ := target.Begin(targetOf(t), 1)
	b, _ := source.Answer(s, pull)
	r, pull, _, _ = target.Accept(r, b)
	s, _ = replica.Change(s, 0b001)
	b, _ = source.Answer(s, pull)
	ended(t, "another Epoch", r, b)
	out, _, _, _ := target.Accept(r, b)
	refused(t, "the same again", out, b, api.Stale)
	goesNotOn(t, "behind the end", out, api.Nothing)
	if value, e := replica.Get(out, 6); e != nil || value != 16 {
		t.Errorf("what came: %v %v", value, e)
	}
	// It changes between the Pull and the first Batch: nothing has ended.
	r, pull, _ = target.Begin(out, 1)
	s, _ = replica.Change(s, 0b011)
	b, _ = source.Answer(s, pull)
	if out, _, more, e := target.Accept(r, b); e != nil || more || out.Session.On {
		t.Errorf("begun again: %+v %v %v", out, more, e)
	}
}

// P7.2: what a replica wrote itself comes back to it: what it holds stays.
func TestFetchOfOwn(t *testing.T) {
	a, _ := replica.New(0, 255)
	a = written(t, a, []uint8{1, 2, 3}, []uint32{1, 2, 3})
	b, _ := replica.New(1, 255)
	b, _ = fetched(t, b, a)
	a = written(t, a, []uint8{1}, []uint32{9})
	b = written(t, b, []uint8{2, 3, 3}, []uint32{20, 30, 31})
	a = written(t, a, []uint8{3}, []uint32{33})
	a, _ = fetched(t, a, b)
	b, _ = fetched(t, b, a)
	for id, want := range map[uint8]uint32{1: 9, 2: 20, 3: 31} {
		for _, r := range []api.Replica{a, b} {
			if value, e := replica.Get(r, id); e != nil || value != want {
				t.Errorf("%v at %v: %v %v", id, r.Rep, value, e)
			}
		}
	}
	// One of no memory that knows less: its Ghosts of what it wrote are Real again.
	a, _ = replica.Change(a, 0)
	a, _ = replica.Change(a, 255)
	if _, e := replica.Get(a, 1); !errors.Is(e, api.Nothing) {
		t.Errorf("a ghost: %v", e)
	}
	a, _ = fetched(t, a, b)
	if value, e := replica.Get(a, 1); e != nil || value != 9 || !slices.Equal(a.Know, b.Know) {
		t.Errorf("its own: %v %v, %+v", value, e, a)
	}
}

// made is what was written, entry by entry.
type made []api.Entry

// puts gives a replica behind all of those values that its filter has, in turn, each in the item that it names.
func (m *made) puts(t *testing.T, r api.Replica, ids []uint8, values []uint32) api.Replica {
	t.Helper()
	for i, id := range ids {
		out, e := replica.Put(r, id, values[i])
		if errors.Is(e, api.Outside) {
			continue
		}
		if e != nil {
			t.Fatal(e)
		}
		r = out
		w, _ := item.Find(r.Held, id)
		*m = append(*m, w)
	}
	return r
}

// pairOf is a target and a source of those filters, that both wrote, both fetched from a third one, and from one another.
func pairOf(t *testing.T, tf, sf uint8, m *made) (api.Replica, api.Replica) {
	t.Helper()
	third, _ := replica.New(2, 255)
	r, _ := replica.New(0, tf)
	s, _ := replica.New(1, sf)
	third = m.puts(t, third, []uint8{0, 1, 2, 3, 4, 5, 6, 7, 8, 9, 10, 11}, []uint32{8, 9, 10, 11, 16, 17, 18, 19, 24, 25, 26, 27})
	r = m.puts(t, r, []uint8{2, 9, 12, 13}, []uint32{8, 9, 10, 11})
	r, _ = fetched(t, r, third)
	third = m.puts(t, third, []uint8{1, 4, 20}, []uint32{10, 17, 8})
	s = m.puts(t, s, []uint8{2, 3, 30, 31, 32, 33}, []uint32{16, 17, 8, 9, 10, 11})
	s, _ = fetched(t, s, third)
	r, _ = fetched(t, r, s)
	s = m.puts(t, s, []uint8{0, 5, 9, 13, 40, 41, 42, 43}, []uint32{9, 8, 11, 10, 8, 9, 10, 11})
	r = m.puts(t, r, []uint8{0, 3, 50, 51}, []uint32{8, 11, 10, 9})
	r, _ = replica.Change(r, tf^0b1)
	r, _ = replica.Change(r, tf)
	return r, s
}

// missing tells of an entry whether it is a Ghost whose class is in a filter, and whose version is known.
func missing(filter uint8, k []api.Run) func(api.Entry) bool {
	return func(e api.Entry) bool { return e.Kind == api.Ghost && inFilter(filter, e.Class) && has(k, e.Ver) }
}

// P7.2, P7.3: fetches between all filters of four classes: just what was due comes, in as few Batches as may be, and nobody claims to know what it lacks.
func TestFetchesOfAllFilters(t *testing.T) {
	for filters := range 256 {
		var m made
		tf, sf := uint8(filters%16), uint8(filters/16)
		name := "filters " + strconv.Itoa(int(tf)) + " and " + strconv.Itoa(int(sf))
		r, s := pairOf(t, tf, sf, &m)
		due, _ := source.Due(s, api.Note{Kind: api.Pull, From: 0, To: 1, Num: 1, Filter: tf, Know: r.Know})
		out, n := fetched(t, r, s)
		if n != max(1, (len(due)+api.MaxBatch-1)/api.MaxBatch) {
			t.Errorf("%s: %v batches of %v", name, n, len(due))
		}
		for id := range uint8(api.MaxItems) {
			a, _ := item.Find(r.Held, id)
			b, _ := item.Find(s.Held, id)
			if got, _ := item.Find(out.Held, id); item.Cmp(got.Ver, a.Ver) < 0 || item.Cmp(got.Ver, b.Ver) < 0 || got.Ver != a.Ver && got.Ver != b.Ver {
				t.Errorf("%s: %v of %v and %v", name, got, a, b)
			}
		}
		for _, w := range m {
			held, _ := item.Find(out.Held, w.ID)
			if has(out.Know, w.Ver) && item.Cmp(held.Ver, w.Ver) < 0 {
				t.Errorf("%s: %v is known, and %v held", name, w, held)
			}
		}
		if slices.ContainsFunc(out.Held, missing(tf, out.Know)) {
			t.Errorf("%s: a Ghost in the filter is known: %+v", name, out)
		}
		if both := joined(r.Know, s.Know); sf&tf == tf && !slices.Equal(out.Know, both) {
			t.Errorf("%s: %v known, not %v", name, out.Know, both)
		}
	}
}
