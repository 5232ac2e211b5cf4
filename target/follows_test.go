package target_test

import (
	"cmp"
	"errors"
	"slices"
	"testing"

	"tidings/api"
	"tidings/item"
	"tidings/know"
	"tidings/note"
	"tidings/replica"
	"tidings/target"
)

// sameNumber tells whether two entries of two items are of one Rep and one Seq.
func sameNumber(a, b api.Entry) bool {
	return a.ID != b.ID && a.Ver.Rep == b.Ver.Rep && a.Ver.Seq == b.Ver.Seq
}

// meantRefusal is why a Batch is refused ahead of what is altered, by the document's words; 0: it isn't.
func meantRefusal(r api.Replica, b api.Note) api.Code {
	s := r.Session
	if !replica.Right(r) {
		return api.Wrong
	}
	if !note.Right(b) {
		return api.BadNote
	}
	if b.Kind == api.Pull || b.To != r.Rep || !s.On || b.From != s.From || b.Num != s.Num || b.Cursor != s.Cursor {
		return api.Stale
	}
	for _, x := range b.Offer {
		if x.Rep == r.Rep && x.To > r.Seq {
			return api.Wrong
		}
	}
	for _, e := range b.Entries {
		if e.Ver.Rep == r.Rep && e.Ver.Seq > r.Seq {
			return api.Wrong
		}
		for _, x := range slices.Concat(b.Entries, r.Held) {
			if sameNumber(e, x) {
				return api.Wrong
			}
		}
	}
	if b.Cursor != 0 && b.Epoch != s.Epoch {
		return api.Ended
	}
	return 0
}

// meantTake is what is held behind an entry that is taken, by the document's words.
func meantTake(l []api.Entry, e api.Entry) []api.Entry {
	out := slices.Clone(l)
	for i, h := range out {
		if h.ID == e.ID {
			less := cmp.Or(cmp.Compare(h.Ver.Stamp, e.Ver.Stamp), cmp.Compare(h.Ver.Rep, e.Ver.Rep), cmp.Compare(h.Ver.Seq, e.Ver.Seq))
			if less < 0 || less == 0 && h.Kind == api.Ghost && e.Kind != api.Ghost {
				out[i] = e
			}
			return out
		}
	}
	out = append(out, e)
	slices.SortFunc(out, func(a, b api.Entry) int { return cmp.Compare(a.ID, b.ID) })
	return out
}

// meant is the replica behind a Batch, by the document's words, and what goes wrong; 0: nothing.
func meant(r api.Replica, b api.Note) (api.Replica, api.Code) {
	if e := meantRefusal(r, b); e == api.Ended {
		return quitted(r), e
	} else if e != 0 {
		return api.Replica{}, e
	}
	for _, e := range b.Entries {
		if e.Kind == api.Real && !inFilter(r.Filter, e.Class) {
			e = ghost(e.ID, e.Ver, e.Class)
		}
		r.Held = meantTake(r.Held, e)
		if e.Kind == api.Ghost && inFilter(r.Filter, e.Class) {
			continue
		}
		if r.Know = joined(r.Know, runs(run(e.Ver.Rep, e.Ver.Seq, e.Ver.Seq))); len(r.Know) > api.MaxRuns {
			return api.Replica{}, api.TooMany
		}
	}
	if b.Cursor == 0 {
		r.Session.Epoch, r.Session.Offer = b.Epoch, b.Offer
	}
	if !b.Done {
		r.Session.Cursor = b.Next
		return r, 0
	}
	if r.Know = joined(r.Know, r.Session.Offer); len(r.Know) > api.MaxRuns {
		return api.Replica{}, api.TooMany
	}
	return quitted(r), 0
}

// asMeant fails unless a Batch is accepted, or refused, by the document's words.
func asMeant(t *testing.T, r api.Replica, b api.Note) api.Code {
	t.Helper()
	want, code := meant(r, b)
	switch code {
	case 0:
		accepts(t, "case", r, b, want)
	case api.Ended:
		ended(t, "case", r, b)
	default:
		refused(t, "case", r, b, code)
	}
	return code
}

// candidates is entries that may come to a replica that waits, by ID: less than what it holds, alike, greater and new, of each kind, in its Filter and outside, and of numbers that are above its Seq, or held.
func candidates() []api.Entry {
	return entries(
		valued(0, ver(0, 4, 2), 13), valued(0, ver(1, 8, 2), 16), dead(0, ver(0, 3, 1)),
		ghost(5, ver(3, 2, 1), 2), valued(5, ver(3, 2, 1), 10),
		valued(6, ver(3, 4, 9), 9),
		ghost(12, ver(2, 2, 2), 1), ghost(13, ver(2, 3, 2), 0),
		valued(14, ver(2, 4, 2), 7), valued(15, ver(2, 5, 2), 14),
		dead(17, ver(2, 2, 9)), dead(18, ver(0, 4, 7)), ghost(19, ver(3, 10, 1), 1),
		dead(20, ver(3, 6, 4)), dead(63, ver(7, most, most)),
	)
}

// choices does something with each choice of at most 4 of the candidates, in order, and, of few, of 5.
func choices(do func(l []api.Entry)) {
	all := candidates()
	var from func(l []api.Entry, next int)
	from = func(l []api.Entry, next int) {
		do(slices.Clone(l))
		if len(l) == api.MaxBatch && next != 5 {
			return
		}
		for i := next; i < len(all) && len(l) <= api.MaxBatch; i++ {
			from(append(l, all[i]), i+1)
		}
	}
	from(nil, 0)
}

// receivers is replicas that wait for a Batch, or don't.
func receivers() []api.Replica {
	wide := func(count int) func(*api.Replica) {
		return func(r *api.Replica) { r.Know = slices.Insert(r.Know, 3, singles(4, count)...) }
	}
	zero := altered(bare(0, nil), func(r *api.Replica) { r.Rep, r.Session.Num, r.Session.From, r.Session.Last = 3, 4, 5, 4 })
	return []api.Replica{
		starting(), waiting(), zero,
		altered(starting(), func(r *api.Replica) { r.Filter = 255 }),
		altered(starting(), wide(api.MaxRuns-4)), altered(starting(), wide(api.MaxRuns-5)), altered(at(waiting(), 5), wide(api.MaxRuns-4)),
	}
}

// cases does something with replicas and what comes to them: each choice of Entries, Done and not, with some Offers and Epochs.
func cases(do func(r api.Replica, b api.Note)) {
	offers := [][]api.Run{nil, runs(run(0, 1, 6), run(3, 1, 9)), runs(run(2, 1, 1), run(4, 1, most)), runs(run(3, 1, 10))}
	for _, r := range receivers() {
		choices(func(l []api.Entry) {
			for i, k := range offers {
				b := offering(reply(r, l...), k...)
				b.Epoch += uint32(i % 2)
				if r.Session.Cursor != 0 {
					b.Offer = nil
				}
				do(r, b)
				b.Done = false
				do(r, b)
			}
		})
	}
}

// P7.2: of all of these, held against a second reading of the document; each outcome comes to be.
func TestAllCases(t *testing.T) {
	count := map[api.Code]int{}
	cases(func(r api.Replica, b api.Note) {
		if count[asMeant(t, r, b)]++; t.Failed() {
			t.FailNow()
		}
	})
	for _, code := range []api.Code{0, api.Wrong, api.BadNote, api.Ended, api.TooMany} {
		if count[code] < 500 {
			t.Errorf("%v: %v", code, count[code])
		}
	}
}

// P7.2: replicas and notes that aren't right, or don't belong together, held against it, too.
func TestAllRefusals(t *testing.T) {
	rs := receivers()
	for _, r := range wrongReplicas() {
		rs = append(rs, r)
	}
	var bs []api.Note
	for _, r := range receivers() {
		rs = append(rs, quitted(r))
		bs = append(bs, reply(r), reply(r, dead(63, ver(7, most, most))), pullOf(r))
		for _, l := range []map[string]api.Note{wrongNotes(r), staleNotes(r)} {
			for _, b := range l {
				bs = append(bs, b)
			}
		}
	}
	for _, r := range rs {
		for _, b := range bs {
			if asMeant(t, r, b); t.Failed() {
				t.FailNow()
			}
		}
	}
}

// P7.3: what is told is right; nothing is held that is less than what was; what was known is known.
func TestWhatFollows(t *testing.T) {
	cases(func(r api.Replica, b api.Note) {
		out, pull, more, e := target.Accept(r, b)
		if e != nil && !errors.Is(e, api.Ended) {
			return
		}
		if !replica.Right(out) || more && !note.Right(pull) {
			t.Fatalf("not right: %+v %+v", out, pull)
		}
		for _, h := range r.Held {
			got, found := item.Find(out.Held, h.ID)
			if !found || item.Cmp(got.Ver, h.Ver) < 0 || got.Ver == h.Ver && h.Kind != api.Ghost && got != h {
				t.Fatalf("%v, and %v was held", got, h)
			}
		}
		if k, e := know.Union(out.Know, r.Know); e != nil || !slices.Equal(k, out.Know) {
			t.Fatalf("%v, and %v was known", out.Know, r.Know)
		}
		if out.Rep != r.Rep || out.Filter != r.Filter || out.Epoch != r.Epoch || out.Seq != r.Seq || out.Session.Last != r.Session.Last {
			t.Fatalf("%+v, and was %+v", out, r)
		}
	})
}

// P7.3: of what is begun, asked again and quit.
func TestWhatFollowsOfOthers(t *testing.T) {
	for _, r := range append(receivers(), idle(), api.Replica{Rep: 7}) {
		for from := range uint8(api.MaxReps) {
			out, pull, e := target.Begin(r, from)
			if e != nil {
				continue
			}
			again, f := target.Again(out)
			left, g := target.Quit(out)
			if f != nil || g != nil || !replica.Right(out) || !note.Right(pull) || !alikeNotes(again, pull) || !replica.Right(left) {
				t.Fatalf("%+v %+v %+v %+v", out, pull, again, left)
			}
			if !alike(quitted(out), left) || !slices.Equal(left.Know, r.Know) || !slices.Equal(left.Held, r.Held) {
				t.Fatalf("%+v of %+v", left, r)
			}
		}
	}
}

// roomy gives a list with spare room, in which one stands.
func roomy[T any](l []T, spare T) []T { return append(slices.Clone(l), spare)[:len(l)] }

// kept tells whether a roomy list is as another one, its spare room too.
func kept[T comparable](got, was []T, spare T) bool {
	return slices.Equal(got, was) && got[:len(got)+1][len(got)] == spare
}

// spoil overwrites a list, and its spare room.
func spoil[T any](l []T, by T) {
	for i := range l[:cap(l)] {
		l[:cap(l)][i] = by
	}
}

// given gives a replica and a note whose lists have spare room, and what tells whether they are as they were.
func given(r api.Replica, b api.Note) (api.Replica, api.Note, func() bool) {
	full, none := run(255, 255, 255), api.Entry{ID: 255}
	gr, gb := r, b
	gr.Know, gr.Held, gr.Session.Offer = roomy(r.Know, full), roomy(r.Held, none), roomy(r.Session.Offer, full)
	gb.Know, gb.Entries, gb.Offer = roomy(b.Know, full), roomy(b.Entries, none), roomy(b.Offer, full)
	return gr, gb, func() bool {
		ok := kept(gr.Know, r.Know, full) && kept(gr.Held, r.Held, none) && kept(gr.Session.Offer, r.Session.Offer, full)
		return ok && kept(gb.Know, b.Know, full) && kept(gb.Entries, b.Entries, none) && kept(gb.Offer, b.Offer, full)
	}
}

// alone fails if one of an answer's lists shares memory with another one, or with what was handed in.
func alone(t *testing.T, out api.Replica, pull api.Note, untouched func() bool) {
	t.Helper()
	knows, held, offer := slices.Clone(out.Know), slices.Clone(out.Held), slices.Clone(out.Session.Offer)
	spoil(pull.Know, run(254, 254, 254))
	if !slices.Equal(out.Know, knows) || !slices.Equal(out.Session.Offer, offer) {
		t.Fatalf("the Pull shares: %+v", out)
	}
	spoil(out.Session.Offer, run(253, 253, 253))
	if !slices.Equal(out.Know, knows) {
		t.Fatalf("the Offer shares: %+v", out)
	}
	spoil(out.Know, run(252, 252, 252))
	if !slices.Equal(out.Held, held) {
		t.Fatalf("what is known shares: %+v", out)
	}
	spoil(out.Held, api.Entry{ID: 254})
	if !untouched() {
		t.Fatal("what was handed in is shared")
	}
}

// Rule 3: what is handed in stays, its spare room too, also where it is refused, and what is answered isn't bound to it.
func TestArgumentsStay(t *testing.T) {
	check := func(r api.Replica, b api.Note) {
		t.Helper()
		gr, gb, untouched := given(r, b)
		out, pull, _, _ := target.Accept(gr, gb)
		begun, first, _ := target.Begin(gr, (gr.Rep+1)%8)
		again, _ := target.Again(gr)
		left, _ := target.Quit(gr)
		if !untouched() {
			t.Fatalf("changed: %+v %+v", gr, gb)
		}
		alone(t, out, pull, untouched)
		alone(t, begun, first, untouched)
		alone(t, left, again, untouched)
	}
	n := 0
	cases(func(r api.Replica, b api.Note) {
		if n++; n%7 == 0 {
			check(r, b)
		}
	})
	for _, r := range wrongReplicas() {
		check(r, reply(r, dead(63, ver(6, 4, 1))))
	}
	for _, r := range append(receivers(), idle()) {
		for _, l := range []map[string]api.Note{wrongNotes(r), staleNotes(r)} {
			for _, b := range l {
				check(r, b)
			}
		}
	}
}

// Rule 4: what a call answers hangs on its arguments alone, also behind ones that were refused.
func TestCallsAreAlone(t *testing.T) {
	b := offering(reply(starting(), dead(1, ver(6, 1, 1))), run(6, 1, 3))
	want, _ := meant(starting(), b)
	for range 3 {
		accepts(t, "again", starting(), b, want)
		goesOn(t, "again", waiting())
		refused(t, "between", idle(), b, api.Stale)
		refused(t, "between", crowded(api.MaxRuns), reply(crowded(api.MaxRuns), dead(1, ver(6, 1, 1))), api.TooMany)
		ended(t, "between", waiting(), with(reply(waiting()), func(b *api.Note) { b.Epoch = 0 }))
		beginsNot(t, "between", waiting(), 3, api.Wrong)
		goesNotOn(t, "between", idle(), api.Nothing)
	}
}

// Rule 5: lists far beyond every limit end, too.
func TestManyOfAll(t *testing.T) {
	const count = 100000
	many := altered(waiting(), func(r *api.Replica) {
		r.Know = slices.Repeat(runs(run(0, 1, 1)), count)
		r.Held = slices.Repeat(entries(ghost(4, ver(1, 1, 1), 1)), count)
		r.Session.Offer = r.Know
	})
	b := with(reply(waiting()), func(b *api.Note) { b.Entries, b.Offer = many.Held, many.Know })
	refused(t, "both", many, b, api.Wrong)
	refused(t, "replica", many, reply(waiting()), api.Wrong)
	refused(t, "note", waiting(), b, api.BadNote)
	refused(t, "Entries", waiting(), reply(waiting(), many.Held...), api.BadNote)
	beginsNot(t, "many", many, 0, api.Wrong)
	goesNotOn(t, "many", many, api.Wrong)
}
