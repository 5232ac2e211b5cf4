package source_test

import (
	"errors"
	"reflect"
	"slices"
	"strconv"
	"testing"

	"tidings/api"
	"tidings/item"
	"tidings/know"
	"tidings/note"
	"tidings/replica"
	"tidings/source"
)

const most = api.MaxNumber

// run makes a run of a replica.
func run(rep uint8, from, to uint32) api.Run { return api.Run{Rep: rep, From: from, To: to} }

// singles makes count runs of a replica, of one number each: 2, 4 and so on.
func singles(rep uint8, count int) []api.Run {
	var k []api.Run
	for i := range uint32(count) {
		k = append(k, run(rep, 2*i+2, 2*i+2))
	}
	return k
}

// everything is runs that have all versions.
func everything() []api.Run {
	var k []api.Run
	for rep := range uint8(api.MaxReps) {
		k = append(k, run(rep, 1, most))
	}
	return k
}

// ver makes a version.
func ver(rep uint8, seq, stamp uint32) api.Ver { return api.Ver{Rep: rep, Seq: seq, Stamp: stamp} }

// valued makes a Real entry.
func valued(id uint8, v api.Ver, value uint32) api.Entry {
	return api.Entry{ID: id, Ver: v, Kind: api.Real, Class: uint8(value % 8), Value: value}
}

// ghost makes a Ghost.
func ghost(id uint8, v api.Ver, class uint8) api.Entry {
	return api.Entry{ID: id, Ver: v, Kind: api.Ghost, Class: class}
}

// dead makes a Dead entry.
func dead(id uint8, v api.Ver) api.Entry { return api.Entry{ID: id, Ver: v, Kind: api.Dead} }

// some is a right replica that has something of all: its own and others' versions, each kind of entry, a Session that is On. Its filter has the classes 0, 2, 5 and 7. Of its Ghosts it knows those of 6 and 21.
func some() api.Replica {
	return api.Replica{
		Rep: 3, Filter: 0b10100101, Epoch: 7, Seq: 9,
		Know: []api.Run{run(0, 1, 4), run(3, 3, 5), run(3, 7, 9), run(7, 2, most)},
		Held: []api.Entry{
			valued(0, ver(0, 4, 2), 13),
			ghost(5, ver(3, 2, 1), 2),
			ghost(6, ver(3, 4, 8), 1),
			valued(9, ver(3, 8, 3), 16),
			dead(20, ver(3, 9, 3)),
			ghost(21, ver(7, 5, 6), 3),
			ghost(40, ver(1, most, most), 6),
			valued(63, ver(7, most, most-1), most),
		},
		Session: api.Session{On: true, Num: 4, From: 5, Cursor: 12, Epoch: 6, Offer: []api.Run{run(3, 1, 9), run(6, 5, 5)}, Last: 6},
	}
}

// listed is a right replica of the number 2 that holds an item of each ID, Real, Ghost and Dead by turns, and knows them all.
func listed(ids ...uint8) api.Replica {
	r := api.Replica{Rep: 2, Filter: 255, Epoch: 3, Know: []api.Run{run(1, 1, 100)}}
	for i, id := range ids {
		v := ver(1, uint32(i)+1, 1)
		r.Held = append(r.Held, []api.Entry{valued(id, v, uint32(id)), ghost(id, v, id%8), dead(id, v)}[i%3])
	}
	return r
}

// holding is a right replica of the number 2, of all classes, that knows and holds those.
func holding(k []api.Run, l ...api.Entry) api.Replica {
	return api.Replica{Rep: 2, Filter: 255, Know: k, Held: l}
}

// pull is a right Pull of the replica 5 to another one, of all classes, that begins at 0 and knows those.
func pull(to uint8, k ...api.Run) api.Note {
	return api.Note{Kind: api.Pull, From: 5, To: to, Num: 0x11223344, Filter: 255, Know: k}
}

// at sets a note's Cursor.
func at(p api.Note, cursor uint8) api.Note {
	p.Cursor = cursor
	return p
}

// through sets a note's Filter.
func through(p api.Note, filter uint8) api.Note {
	p.Filter = filter
	return p
}

// altered gives a replica altered, its lists in memory of their own.
func altered(r api.Replica, alter func(*api.Replica)) api.Replica {
	r.Know, r.Held, r.Session.Offer = slices.Clone(r.Know), slices.Clone(r.Held), slices.Clone(r.Session.Offer)
	alter(&r)
	return r
}

// ids gives the items of entries.
func ids(l []api.Entry) []uint8 {
	var out []uint8
	for _, e := range l {
		out = append(out, e.ID)
	}
	return out
}

// plain gives a note whose empty lists are nil.
func plain(n api.Note) api.Note {
	if len(n.Know) == 0 {
		n.Know = nil
	}
	if len(n.Entries) == 0 {
		n.Entries = nil
	}
	if len(n.Offer) == 0 {
		n.Offer = nil
	}
	return n
}

// alike: two notes, nil and empty lists meaning the same.
func alike(a, b api.Note) bool { return reflect.DeepEqual(plain(a), plain(b)) }

// isDue fails unless just those entries are due.
func isDue(t *testing.T, name string, r api.Replica, p api.Note, want ...api.Entry) {
	t.Helper()
	if got, e := source.Due(r, p); e != nil || !slices.Equal(got, want) {
		t.Errorf("%s: %v %v, not %v", name, got, e, want)
	}
}

// answers fails unless that note is answered.
func answers(t *testing.T, name string, r api.Replica, p, want api.Note) {
	t.Helper()
	if got, e := source.Answer(r, p); e != nil || !alike(got, want) {
		t.Errorf("%s:\n%+v %v, not\n%+v", name, got, e, want)
	}
}

// tooMany fails unless an answer is refused for what is offered, and nothing stands beside that; what is due is told.
func tooMany(t *testing.T, name string, r api.Replica, p api.Note) {
	t.Helper()
	if got, e := source.Answer(r, p); !errors.Is(e, api.TooMany) || !alike(got, api.Note{}) {
		t.Errorf("%s: %+v %v", name, got, e)
	}
	if got, e := source.Due(r, p); e != nil || !slices.Equal(got, meantDue(r, p)) {
		t.Errorf("%s: due: %v %v", name, got, e)
	}
}

// refused fails unless both calls tell that code, and nothing beside it.
func refused(t *testing.T, name string, r api.Replica, p api.Note, want api.Code) {
	t.Helper()
	if got, e := source.Due(r, p); len(got) != 0 || !errors.Is(e, want) {
		t.Errorf("%s: due: %v %v, not %v", name, got, e, want)
	}
	if got, e := source.Answer(r, p); !alike(got, api.Note{}) || !errors.Is(e, want) {
		t.Errorf("%s: answer: %+v %v, not %v", name, got, e, want)
	}
}

// has tells whether runs have a pair.
func has(k []api.Run, rep uint8, n uint32) bool {
	for _, x := range k {
		if x.Rep == rep && x.From <= n && n <= x.To {
			return true
		}
	}
	return false
}

// inFilter tells whether a filter has a class.
func inFilter(filter, class uint8) bool { return filter/(1<<class)%2 == 1 }

// meantDue is what is due, by the document's words.
func meantDue(r api.Replica, p api.Note) []api.Entry {
	var l []api.Entry
	for _, h := range r.Held {
		if h.ID >= p.Cursor && !has(p.Know, h.Ver.Rep, h.Ver.Seq) {
			l = append(l, h)
		}
	}
	return l
}

// meantOffer is what is offered, by the document's words, ghost by ghost. False: too many runs.
func meantOffer(r api.Replica, p api.Note) ([]api.Run, bool) {
	k := r.Know
	for _, h := range r.Held {
		if h.Kind != api.Ghost || !inFilter(p.Filter, h.Class) || !has(k, h.Ver.Rep, h.Ver.Seq) {
			continue
		}
		var out []api.Run
		for _, x := range k {
			if x.Rep != h.Ver.Rep || h.Ver.Seq < x.From || x.To < h.Ver.Seq {
				out = append(out, x)
				continue
			}
			if x.From < h.Ver.Seq {
				out = append(out, run(x.Rep, x.From, h.Ver.Seq-1))
			}
			if h.Ver.Seq < x.To {
				out = append(out, run(x.Rep, h.Ver.Seq+1, x.To))
			}
		}
		if k = out; len(k) > api.MaxRuns {
			return nil, false
		}
	}
	return k, true
}

// meant is the answer, by the document's words. False: too many runs.
func meant(r api.Replica, p api.Note) (api.Note, bool) {
	b := api.Note{Kind: api.Batch, From: r.Rep, To: p.From, Num: p.Num, Cursor: p.Cursor, Epoch: r.Epoch, Next: p.Cursor, Done: true}
	for i, e := range meantDue(r, p) {
		if i == api.MaxBatch {
			b.Done = false
			break
		}
		if e.Kind == api.Real && !inFilter(p.Filter, e.Class) {
			e = ghost(e.ID, e.Ver, e.Class)
		}
		b.Entries, b.Next = append(b.Entries, e), e.ID+1
	}
	ok := true
	if p.Cursor == 0 {
		b.Offer, ok = meantOffer(r, p)
	}
	return b, ok
}

// P6.1: a Pull that knows nothing, some and all.
func TestDue(t *testing.T) {
	r := some()
	h := r.Held
	isDue(t, "nothing known", r, pull(3), h...)
	isDue(t, "no list", r, pull(3, []api.Run{}...), h...)
	isDue(t, "some known", r, pull(3, run(3, 4, 8), run(7, 6, most)), h[0], h[1], h[4], h[5], h[6])
	isDue(t, "one known", r, pull(3, run(1, most, most)), h[0], h[1], h[2], h[3], h[4], h[5], h[7])
	isDue(t, "all but one known", r, pull(3, run(0, 1, 3), run(0, 5, most), run(1, 1, most), run(3, 1, 9), run(7, 1, most)), h[0])
	isDue(t, "just all known", r, pull(3, run(0, 4, 4), run(1, most, most), run(3, 2, 2), run(3, 4, 4), run(3, 8, 9), run(7, 5, 5), run(7, most, most)))
	isDue(t, "all known", r, pull(3, everything()...))
	isDue(t, "what it knows itself", r, pull(3, r.Know...), h[1], h[6])
	isDue(t, "other Reps known", r, pull(3, run(2, 1, most), run(4, 1, most)), h...)
	isDue(t, "the Stamps known", r, pull(3, run(0, 2, 2), run(3, 1, 1), run(3, 3, 3), run(7, 6, 6), run(7, most-1, most-1)), h...)
	isDue(t, "nothing held", holding(everything()[:1]), pull(2))
	isDue(t, "nothing at all", api.Replica{}, pull(0))
}

// P6.1: neither filter, nor what the replica knows, alters what is due, and no number but the Cursor does.
func TestDueAsHeld(t *testing.T) {
	r := some()
	for filter := range 256 {
		isDue(t, "filter", r, through(pull(3), uint8(filter)), r.Held...)
	}
	for _, num := range []uint32{1, 2, most} {
		p := pull(3)
		p.Num, p.From = num, uint8(num%3)
		isDue(t, "Num and From", r, p, r.Held...)
	}
	off := altered(r, func(r *api.Replica) { r.Session = api.Session{Last: 6} })
	isDue(t, "no Session", off, pull(3), r.Held...)
}

// P6.1: an ID just below the Cursor, at it, and above; the Cursors 0 and 63.
func TestDueAtCursors(t *testing.T) {
	r := listed(0, 8, 9, 10, 61, 62, 63)
	for cursor, want := range map[uint8][]uint8{
		0: {0, 8, 9, 10, 61, 62, 63}, 1: {8, 9, 10, 61, 62, 63}, 8: {8, 9, 10, 61, 62, 63}, 9: {9, 10, 61, 62, 63}, 10: {10, 61, 62, 63},
		11: {61, 62, 63}, 61: {61, 62, 63}, 62: {62, 63}, 63: {63},
	} {
		got, e := source.Due(r, at(pull(2), cursor))
		if e != nil || !slices.Equal(ids(got), want) {
			t.Errorf("%v: %v %v", cursor, got, e)
		}
	}
	isDue(t, "63, known", r, at(pull(2, run(1, 7, 7)), 63))
	isDue(t, "63, not held", listed(0, 62), at(pull(2), 63))
	var all []uint8
	for id := range uint8(api.MaxItems) {
		all = append(all, id)
	}
	for id := range uint8(api.MaxItems) {
		got, e := source.Due(listed(all...), at(pull(2), id))
		if e != nil || !slices.Equal(ids(got), all[id:]) {
			t.Errorf("all items, %v: %v %v", id, got, e)
		}
	}
}

// P6.2: the answer to Pulls that know nothing, some and all, told in full.
func TestAnswer(t *testing.T) {
	r := some()
	b := api.Note{Kind: api.Batch, From: 3, To: 5, Num: 0x11223344, Epoch: 7}
	first, second, known, all := b, b, b, b
	first.Entries = []api.Entry{ghost(0, ver(0, 4, 2), 5), ghost(5, ver(3, 2, 1), 2), ghost(6, ver(3, 4, 8), 1), valued(9, ver(3, 8, 3), 16)}
	first.Next, first.Offer = 10, []api.Run{run(0, 1, 4), run(3, 3, 3), run(3, 5, 5), run(3, 7, 9), run(7, 2, most)}
	answers(t, "nothing known", r, through(pull(3), 0b00000111), first)
	second.Entries = []api.Entry{dead(20, ver(3, 9, 3)), ghost(21, ver(7, 5, 6), 3), ghost(40, ver(1, most, most), 6), ghost(63, ver(7, most, most-1), 7)}
	second.Cursor, second.Next, second.Done = 10, 64, true
	answers(t, "gone on", r, through(at(pull(3), 10), 0b00000111), second)
	known.Entries = []api.Entry{valued(0, ver(0, 4, 2), 13), dead(20, ver(3, 9, 3)), ghost(21, ver(7, 5, 6), 3)}
	known.Next, known.Done, known.Offer = 22, true, []api.Run{run(0, 1, 4), run(3, 3, 5), run(3, 7, 9), run(7, 2, 4), run(7, 6, most)}
	answers(t, "some known", r, through(pull(3, run(1, most, most), run(3, 1, 8), run(7, 6, most)), 0b10101000), known)
	all.Done, all.Offer = true, r.Know
	answers(t, "all known", r, through(pull(3, everything()...), 0b10100101), all)
	all.Cursor, all.Next, all.Offer = 33, 33, nil
	answers(t, "all known, gone on", r, through(at(pull(3, everything()...), 33), 0b10100101), all)
	answers(t, "of one that has nothing", api.Replica{Rep: 7}, pull(7), api.Note{Kind: api.Batch, From: 7, To: 5, Num: 0x11223344, Done: true})
}

// P6.2: From, To, Num, Cursor and Epoch, each at its edges.
func TestAnswerEnds(t *testing.T) {
	for rep := range uint8(api.MaxReps) {
		for from := range uint8(api.MaxReps) {
			for _, n := range []uint32{1, 2, most - 1, most} {
				r := api.Replica{Rep: rep, Filter: 0b1010, Epoch: n - 1}
				p := api.Note{Kind: api.Pull, From: from, To: rep, Num: n, Cursor: uint8(n) % 64, Filter: 1}
				if from == rep {
					refused(t, "itself", r, p, api.BadNote)
					continue
				}
				answers(t, "ends", r, p, api.Note{Kind: api.Batch, From: rep, To: from, Num: n, Cursor: p.Cursor, Epoch: n - 1, Next: p.Cursor, Done: true})
			}
		}
	}
}

// P6.2: how many are told of 0, 1, 3, 4, 5 and 8 that are due, Next and Done.
func TestHowManyAreTold(t *testing.T) {
	all := []uint8{3, 7, 8, 20, 21, 40, 41, 62}
	for _, c := range []struct {
		due, told int
		next      uint8
		done      bool
	}{{0, 0, 0, true}, {1, 1, 4, true}, {3, 3, 9, true}, {4, 4, 21, true}, {5, 4, 21, false}, {7, 4, 21, false}, {8, 4, 21, false}} {
		r := listed(all[:c.due]...)
		got, e := source.Answer(r, pull(2))
		if e != nil || !slices.Equal(got.Entries, r.Held[:c.told]) || got.Next != c.next || got.Done != c.done {
			t.Errorf("%v due: %+v %v", c.due, got, e)
		}
		// As many are due of those that are held, if the others are known, or below the Cursor.
		r = listed(all...)
		got, e = source.Answer(r, pull(2, run(1, uint32(c.due)+1, 100)))
		if e != nil || !slices.Equal(got.Entries, r.Held[:c.told]) || got.Next != c.next || got.Done != c.done {
			t.Errorf("%v due, others known: %+v %v", c.due, got, e)
		}
		from := 8 - c.due
		got, e = source.Answer(r, at(pull(2), append(all, 63)[from]))
		if e != nil || !slices.Equal(got.Entries, r.Held[from:from+c.told]) || got.Done != c.done {
			t.Errorf("%v due, others below: %+v %v", c.due, got, e)
		}
	}
}

// P6.2: without any entry, Next is the Cursor.
func TestNextWithoutEntries(t *testing.T) {
	for cursor := range uint8(api.MaxItems) {
		want := api.Note{Kind: api.Batch, From: 2, To: 5, Num: 0x11223344, Cursor: cursor, Epoch: 3, Next: cursor, Done: true}
		if cursor == 0 {
			want.Offer = []api.Run{run(1, 1, 100)}
		}
		answers(t, strconv.Itoa(int(cursor)), listed(), at(pull(2), cursor), want)
		answers(t, strconv.Itoa(int(cursor))+", all known", listed(0, 2, 63), through(at(pull(2, everything()...), cursor), 1<<1), want)
	}
}

// P6.2: the item 63 as the last one told.
func TestTheLastItem(t *testing.T) {
	for name, held := range map[string][]uint8{"alone": {63}, "of three": {0, 1, 63}, "of four": {0, 61, 62, 63}} {
		r := listed(held...)
		got, e := source.Answer(r, pull(2))
		if e != nil || !slices.Equal(got.Entries, r.Held) || got.Next != 64 || !got.Done || !note.Right(got) {
			t.Errorf("%s: %+v %v", name, got, e)
		}
	}
	r := listed(0, 60, 61, 62, 63)
	got, e := source.Answer(r, pull(2))
	if e != nil || !slices.Equal(got.Entries, r.Held[:4]) || got.Next != 63 || got.Done || !note.Right(got) {
		t.Errorf("of five: %+v %v", got, e)
	}
	got, e = source.Answer(r, at(pull(2), 63))
	if e != nil || !slices.Equal(got.Entries, r.Held[4:]) || got.Next != 64 || !got.Done || !note.Right(got) {
		t.Errorf("behind four: %+v %v", got, e)
	}
}

// P6.2: each kind of each class, in each Pull's Filter and outside.
func TestHowEachIsTold(t *testing.T) {
	v := ver(1, 6, 2)
	for class := range uint8(8) {
		value := uint32(class) + 80
		for filter := range 256 {
			f := uint8(filter)
			is := func(name string, held, want api.Entry) {
				t.Helper()
				got, e := source.Answer(holding([]api.Run{run(1, 6, 6)}, held), through(pull(2), f))
				if e != nil || len(got.Entries) != 1 || got.Entries[0] != want {
					t.Errorf("%s, class %v, filter %v: %v %v", name, class, filter, got.Entries, e)
				}
			}
			is("Ghost", ghost(4, v, class), ghost(4, v, class))
			is("Dead", dead(4, v), dead(4, v))
			if filter>>class&1 == 1 {
				is("Real, in", valued(4, v, value), valued(4, v, value))
			} else {
				is("Real, outside", valued(4, v, value), ghost(4, v, class))
			}
		}
	}
}

// P6.2: what is offered at a Cursor of 0; at another one nothing.
func TestOffer(t *testing.T) {
	known := []api.Run{run(0, 1, 3), run(1, 1, 9), run(3, 5, 5)}
	v, alone, begin, end := ver(1, 4, 1), ver(3, 5, 1), ver(0, 1, 1), ver(0, 3, 1)
	for name, c := range map[string]struct {
		held []api.Entry
		want []api.Run
	}{
		"nothing held":          {nil, known},
		"Ghost in, known":       {[]api.Entry{ghost(4, v, 1)}, []api.Run{run(0, 1, 3), run(1, 1, 3), run(1, 5, 9), run(3, 5, 5)}},
		"Ghost in, not known":   {[]api.Entry{ghost(4, ver(1, 10, 1), 1)}, known},
		"Ghost in, other Rep":   {[]api.Entry{ghost(4, ver(4, 4, 1), 1)}, known},
		"Ghost outside, known":  {[]api.Entry{ghost(4, v, 0)}, known},
		"Ghost outside, not":    {[]api.Entry{ghost(4, ver(1, 10, 1), 0)}, known},
		"Real in":               {[]api.Entry{valued(4, v, 1)}, known},
		"Real outside":          {[]api.Entry{valued(4, v, 8)}, known},
		"Dead":                  {[]api.Entry{dead(4, v)}, known},
		"a whole run":           {[]api.Entry{ghost(4, alone, 7)}, []api.Run{run(0, 1, 3), run(1, 1, 9)}},
		"at the begin":          {[]api.Entry{ghost(4, begin, 7)}, []api.Run{run(0, 2, 3), run(1, 1, 9), run(3, 5, 5)}},
		"at the end":            {[]api.Entry{ghost(4, end, 7)}, []api.Run{run(0, 1, 2), run(1, 1, 9), run(3, 5, 5)}},
		"items 0 and 63":        {[]api.Entry{ghost(0, begin, 1), ghost(63, end, 7)}, []api.Run{run(0, 2, 2), run(1, 1, 9), run(3, 5, 5)}},
		"one in, one outside":   {[]api.Entry{ghost(4, begin, 6), ghost(5, end, 7)}, []api.Run{run(0, 1, 2), run(1, 1, 9), run(3, 5, 5)}},
		"more than four Ghosts": {[]api.Entry{ghost(4, begin, 1), ghost(5, end, 1), dead(6, ver(1, 1, 1)), ghost(7, alone, 1), ghost(8, ver(1, 2, 1), 7), ghost(9, ver(1, 9, 1), 7), ghost(10, ver(0, 2, 1), 7)}, []api.Run{run(1, 1, 1), run(1, 3, 8)}},
	} {
		r := holding(known, c.held...)
		for _, k := range [][]api.Run{nil, everything()} {
			got, e := source.Answer(r, through(pull(2, k...), 0b10000010))
			if e != nil || !slices.Equal(got.Offer, c.want) {
				t.Errorf("%s: %v %v, not %v", name, got.Offer, e, c.want)
			}
		}
		for cursor := uint8(1); cursor < api.MaxItems; cursor++ {
			got, e := source.Answer(r, through(at(pull(2), cursor), 0b10000010))
			if e != nil || len(got.Offer) != 0 {
				t.Errorf("%s, at %v: %v %v", name, cursor, got.Offer, e)
			}
		}
	}
}

// P6.2: nothing but the Pull's Filter takes a Ghost's version out of what is offered: not the replica's own.
func TestOfferAndFilters(t *testing.T) {
	for class := range uint8(8) {
		for _, own := range []uint8{0, 1 << class, 255 - 1<<class, 255} {
			for filter := range 256 {
				r := holding([]api.Run{run(1, 1, 3)}, ghost(4, ver(1, 2, 1), class))
				r.Filter = own
				want := []api.Run{run(1, 1, 3)}
				if filter>>class&1 == 1 {
					want = []api.Run{run(1, 1, 1), run(1, 3, 3)}
				}
				got, e := source.Answer(r, through(pull(2), uint8(filter)))
				if e != nil || !slices.Equal(got.Offer, want) {
					t.Errorf("class %v, filters %v and %v: %v %v", class, own, filter, got.Offer, e)
				}
			}
		}
	}
}

// wide makes a replica that knows count runs, of the last one the numbers 1 to 9 of the replica 7, and holds those.
func wide(count int, l ...api.Entry) api.Replica {
	return holding(append(singles(0, count-1), run(7, 1, 9)), l...)
}

// P6.2: what is offered needs just MaxRuns runs, one more, and one more only in between.
func TestOfferAtMaxRuns(t *testing.T) {
	split := func(id uint8) api.Entry { return ghost(id, ver(7, 5, 1), 3) }
	whole := func(id uint8) api.Entry { return ghost(id, ver(0, 2, 1), 3) }
	p := through(pull(2), 1<<3)
	for name, r := range map[string]api.Replica{
		"one more":               wide(api.MaxRuns, split(4)),
		"one more in between":    wide(api.MaxRuns, split(4), whole(5)),
		"in between, of item 0":  wide(api.MaxRuns, split(0), whole(63)),
		"one more behind others": wide(api.MaxRuns, whole(4), split(5), ghost(6, ver(7, 7, 1), 3)),
		"in between, the second": wide(api.MaxRuns-1, split(4), ghost(5, ver(7, 7, 1), 3), whole(6)),
		"two more":               wide(api.MaxRuns, split(4), ghost(5, ver(7, 7, 1), 3)),
	} {
		tooMany(t, name, r, p)
		tooMany(t, name+", all known", r, through(pull(2, everything()...), 255))
		// Where nothing is offered, nothing is too many.
		for _, cursor := range []uint8{1, 4, 63} {
			want, _ := meant(r, at(p, cursor))
			answers(t, name+", gone on", r, at(p, cursor), want)
		}
		want, _ := meant(r, through(p, 255-1<<3))
		answers(t, name+", outside", r, through(p, 255-1<<3), want)
		if !slices.Equal(want.Offer, r.Know) {
			t.Errorf("%s, outside: %v", name, want.Offer)
		}
	}
	for name, r := range map[string]api.Replica{
		"just MaxRuns":        wide(api.MaxRuns),
		"just MaxRuns, of 63": wide(api.MaxRuns-1, split(4)),
		"a whole one first":   wide(api.MaxRuns, whole(4), split(5)),
		"at the begin":        wide(api.MaxRuns, ghost(4, ver(7, 1, 1), 3)),
		"at the end":          wide(api.MaxRuns, ghost(4, ver(7, 9, 1), 3)),
		"not known":           wide(api.MaxRuns, ghost(4, ver(7, 10, 1), 3)),
		"Real":                wide(api.MaxRuns, valued(4, ver(7, 5, 1), 3)),
		"Dead":                wide(api.MaxRuns, dead(4, ver(7, 5, 1))),
		"begin, then on":      wide(api.MaxRuns, ghost(4, ver(7, 1, 1), 3), ghost(5, ver(7, 2, 1), 3)),
	} {
		want, ok := meant(r, p)
		if !ok || len(want.Offer) > api.MaxRuns || len(want.Offer) < api.MaxRuns-1 {
			t.Fatalf("%s: %v", name, want)
		}
		answers(t, name, r, p, want)
	}
}

// cases is replicas and what they are asked: by each Cursor and some filters, Pulls that know nothing, some and all.
func cases(do func(r api.Replica, p api.Note)) {
	var all []uint8
	for id := range uint8(api.MaxItems) {
		all = append(all, id)
	}
	rs := []api.Replica{some(), {Rep: 2}, listed(all...), listed(all[:5]...), listed(0, 4, 9, 10, 33, 60, 61, 62, 63), wide(api.MaxRuns, ghost(4, ver(7, 5, 1), 3), valued(6, ver(7, 6, 1), 4))}
	ks := [][]api.Run{nil, everything(), {run(1, 2, 2), run(1, 5, 6), run(3, 4, 8), run(7, 6, most)}, {run(0, 1, 4), run(1, 3, most)}, singles(1, api.MaxRuns), some().Know}
	for _, r := range rs {
		for _, k := range ks {
			for cursor := range uint8(api.MaxItems) {
				for _, filter := range []uint8{0, 1, 6, 8, 85, 128, 170, 247, 255} {
					do(r, through(at(pull(r.Rep, k...), cursor), filter))
				}
			}
		}
	}
}

// P6.1 and P6.2: of all of these, held against a second reading of the document.
func TestAllCases(t *testing.T) {
	refusals := 0
	cases(func(r api.Replica, p api.Note) {
		isDue(t, "case", r, p, meantDue(r, p)...)
		if want, ok := meant(r, p); ok {
			answers(t, "case", r, p, want)
		} else {
			tooMany(t, "case", r, p)
			refusals++
		}
		if t.Failed() {
			t.FailNow()
		}
	})
	if refusals == 0 {
		t.Error("none was refused")
	}
}

// P6.3: it is right; nothing in it is known already, and no value that isn't in the Pull's Filter.
func TestWhatFollows(t *testing.T) {
	cases(func(r api.Replica, p api.Note) {
		b, e := source.Answer(r, p)
		if e != nil {
			return
		}
		f, e := note.Write(b)
		if e != nil || !note.Right(b) {
			t.Fatalf("not right: %+v", b)
		}
		if got, e := note.Read(f); e != nil || !alike(got, b) {
			t.Fatalf("not read: %+v %v", got, e)
		}
		for _, x := range b.Entries {
			if know.Has(p.Know, x.Ver.Rep, x.Ver.Seq) || x.Kind == api.Real && !item.In(x, p.Filter) {
				t.Fatalf("%+v: %+v", p, x)
			}
		}
	})
}

// P6.3: asked batch by batch, all that is due is told, each once, and in as few Batches as may be.
func TestBatchByBatch(t *testing.T) {
	cases(func(r api.Replica, p api.Note) {
		want := ids(meantDue(r, p))
		var got []uint8
		for batches := 1; ; batches++ {
			b, e := source.Answer(r, p)
			if e != nil {
				return
			}
			if batches > api.MaxItems {
				t.Fatalf("no end: %+v", b)
			}
			got = append(got, ids(b.Entries)...)
			if !b.Done {
				p.Cursor = b.Next
				continue
			}
			if !slices.Equal(got, want) || batches != max(1, (len(want)+3)/4) {
				t.Fatalf("%v in %v, not %v", got, batches, want)
			}
			return
		}
	})
}

// wrongReplicas is replicas that aren't right, by each of their fields.
func wrongReplicas() map[string]api.Replica {
	of := func(alter func(*api.Replica)) api.Replica { return altered(some(), alter) }
	return map[string]api.Replica{
		"Rep 8":                   of(func(r *api.Replica) { r.Rep = 8 }),
		"Rep 255":                 {Rep: 255},
		"another Filter":          of(func(r *api.Replica) { r.Filter = 0 }),
		"Seq too small":           of(func(r *api.Replica) { r.Seq = 8 }),
		"Know that falls":         of(func(r *api.Replica) { slices.Reverse(r.Know) }),
		"Know of 65 runs":         holding(singles(0, api.MaxRuns+1)),
		"Know of Rep 8":           holding([]api.Run{run(8, 1, 1)}),
		"nothing known":           of(func(r *api.Replica) { r.Know = nil }),
		"Held that falls":         of(func(r *api.Replica) { slices.Reverse(r.Held) }),
		"Held of 64":              holding(nil, ghost(64, ver(1, 1, 1), 1)),
		"Held of Seq 0":           holding(nil, ghost(4, ver(1, 0, 1), 1)),
		"Held of Kind 4":          of(func(r *api.Replica) { r.Held[2].Kind = 4 }),
		"a Ghost of a Value":      of(func(r *api.Replica) { r.Held[2].Value = 1 }),
		"two of one number":       holding(nil, ghost(4, ver(1, 1, 1), 1), ghost(5, ver(1, 1, 2), 1)),
		"own above Seq":           holding(nil, ghost(4, ver(2, 1, 1), 1)),
		"Session, From itself":    of(func(r *api.Replica) { r.Session.From = r.Rep }),
		"Session, Num too great":  of(func(r *api.Replica) { r.Session.Num = 7 }),
		"Session, Cursor 64":      of(func(r *api.Replica) { r.Session.Cursor = 64 }),
		"Session, Cursor 0":       of(func(r *api.Replica) { r.Session.Cursor = 0 }),
		"Session, not On":         of(func(r *api.Replica) { r.Session.On = false }),
		"Session, Offer of Rep 8": of(func(r *api.Replica) { r.Session.Offer[1].Rep = 8 }),
	}
}

// wrongNotes is notes to a replica that aren't right: Pulls, Batches, and of no such kind.
func wrongNotes(to uint8) map[string]api.Note {
	of := func(alter func(*api.Note)) api.Note {
		p := pull(to, run(0, 1, 3))
		alter(&p)
		return p
	}
	return map[string]api.Note{
		"zero":             {},
		"Kind 0":           of(func(p *api.Note) { p.Kind = 0 }),
		"Kind 3":           of(func(p *api.Note) { p.Kind = 3 }),
		"Kind 257":         of(func(p *api.Note) { p.Kind = 257 }),
		"Kind -1":          of(func(p *api.Note) { p.Kind = -1 }),
		"From 8":           of(func(p *api.Note) { p.From = 8 }),
		"From To":          of(func(p *api.Note) { p.From = p.To }),
		"Num 0":            of(func(p *api.Note) { p.Num = 0 }),
		"Cursor 64":        of(func(p *api.Note) { p.Cursor = 64 }),
		"Cursor 255":       of(func(p *api.Note) { p.Cursor = 255 }),
		"Know of Rep 8":    of(func(p *api.Note) { p.Know = []api.Run{run(8, 1, 1)} }),
		"Know from 0":      of(func(p *api.Note) { p.Know = []api.Run{run(0, 0, 1)} }),
		"Know that falls":  of(func(p *api.Note) { p.Know = []api.Run{run(1, 1, 1), run(0, 1, 1)} }),
		"Know of 65 runs":  of(func(p *api.Note) { p.Know = singles(0, api.MaxRuns+1) }),
		"an Epoch":         of(func(p *api.Note) { p.Epoch = 1 }),
		"Entries":          of(func(p *api.Note) { p.Entries = []api.Entry{dead(1, ver(1, 1, 1))} }),
		"a Next":           of(func(p *api.Note) { p.Next = 1 }),
		"Done":             of(func(p *api.Note) { p.Done = true }),
		"an Offer":         of(func(p *api.Note) { p.Offer = []api.Run{run(1, 1, 1)} }),
		"a Batch, Next":    {Kind: api.Batch, From: 5, To: to, Num: 1, Next: 1, Done: true},
		"a Batch not Done": {Kind: api.Batch, From: 5, To: to, Num: 1},
	}
}

// staleNotes is right notes that a replica has no answer to: Batches, to it and to others, and Pulls to others.
func staleNotes(rep uint8) map[string]api.Note {
	out := map[string]api.Note{
		"a Batch":           {Kind: api.Batch, From: 5, To: rep, Num: 1, Done: true},
		"a Batch of some":   {Kind: api.Batch, From: 5, To: rep, Num: 1, Entries: []api.Entry{dead(1, ver(1, 1, 1))}, Next: 2, Done: true, Offer: []api.Run{run(1, 1, 1)}},
		"a Batch, Cursor 9": {Kind: api.Batch, From: 5, To: rep, Num: 1, Cursor: 9, Next: 9, Done: true},
		"a Batch of its":    {Kind: api.Batch, From: rep, To: 5, Num: 1, Done: true},
	}
	for to := range uint8(api.MaxReps) {
		if to == rep {
			continue
		}
		p := pull(to, run(0, 1, 3))
		p.From = (to + 1) % api.MaxReps
		out["a Pull to "+strconv.Itoa(int(to))] = p
		p.From = rep
		out["a Pull of its to "+strconv.Itoa(int(to))] = p
	}
	return out
}

// P6.1 and P6.2: each error, and of several the one that is named first.
func TestRefused(t *testing.T) {
	good := pull(3)
	for name, r := range wrongReplicas() {
		refused(t, name, r, good, api.Wrong)
		refused(t, name+", of itself", r, pull(r.Rep), api.Wrong)
		for more, p := range wrongNotes(r.Rep) {
			refused(t, name+", "+more, r, p, api.Wrong)
		}
		for more, p := range staleNotes(r.Rep) {
			refused(t, name+", "+more, r, p, api.Wrong)
		}
	}
	crowd := wide(api.MaxRuns, ghost(4, ver(7, 5, 1), 3))
	for _, r := range []api.Replica{some(), {}, {Rep: 7}, listed(0, 3, 63), crowd} {
		for to := range uint8(9) {
			for name, p := range wrongNotes(to) {
				refused(t, name+", to "+strconv.Itoa(int(to)), r, p, api.BadNote)
			}
		}
		for name, p := range staleNotes(r.Rep) {
			refused(t, name, r, p, api.Stale)
		}
	}
	tooMany(t, "none of them", crowd, pull(2))
}

// P6.1: a right replica beside a wrong one of the same number: neither bears on the other.
func TestCallsAreAlone(t *testing.T) {
	want, _ := meant(some(), pull(3))
	for range 3 {
		answers(t, "again", some(), pull(3), want)
		isDue(t, "again", some(), pull(3), some().Held...)
		refused(t, "between", altered(some(), func(r *api.Replica) { r.Filter = 0 }), pull(3), api.Wrong)
		refused(t, "between", some(), pull(2), api.Stale)
		tooMany(t, "between", wide(api.MaxRuns, ghost(4, ver(7, 5, 1), 3)), pull(2))
	}
}

// crowded gives a list with spare room, in which one stands.
func crowded[T any](l []T, spare T) []T { return append(slices.Clone(l), spare)[:len(l)] }

// copies gives a replica and a note whose lists have spare room.
func copies(r api.Replica, p api.Note) (api.Replica, api.Note) {
	r.Know, r.Session.Offer, r.Held = crowded(r.Know, run(255, 255, 255)), crowded(r.Session.Offer, run(255, 255, 255)), crowded(r.Held, api.Entry{ID: 255})
	p.Know, p.Offer, p.Entries = crowded(p.Know, run(255, 255, 255)), crowded(p.Offer, run(255, 255, 255)), crowded(p.Entries, api.Entry{ID: 255})
	return r, p
}

// same tells whether a crowded list is as another one, its spare room too.
func same[T comparable](got, was []T, spare T) bool {
	return slices.Equal(got, was) && got[:len(got)+1][len(got)] == spare
}

// untouched tells whether copies are as they were made.
func untouched(r api.Replica, p api.Note, wasR api.Replica, wasP api.Note) bool {
	full, none := run(255, 255, 255), api.Entry{ID: 255}
	ok := same(r.Know, wasR.Know, full) && same(r.Session.Offer, wasR.Session.Offer, full) && same(r.Held, wasR.Held, none)
	return ok && same(p.Know, wasP.Know, full) && same(p.Offer, wasP.Offer, full) && same(p.Entries, wasP.Entries, none)
}

// spoil overwrites a list, and its spare room.
func spoil[T any](l []T, with T) {
	for i := range l[:cap(l)] {
		l[:cap(l)][i] = with
	}
}

// Rule 3: what is handed in stays, its spare room too, also where it is refused, and what is answered isn't bound to it.
func TestArgumentsStay(t *testing.T) {
	check := func(r api.Replica, p api.Note) {
		t.Helper()
		givenR, givenP := copies(r, p)
		l, _ := source.Due(givenR, givenP)
		b, _ := source.Answer(givenR, givenP)
		if !untouched(givenR, givenP, r, p) {
			t.Fatalf("changed: %+v %+v", givenR, givenP)
		}
		offer, entries := slices.Clone(b.Offer), slices.Clone(b.Entries)
		spoil(l, api.Entry{ID: 254})
		if !slices.Equal(b.Entries, entries) {
			t.Fatalf("two answers share: %+v", b)
		}
		spoil(b.Entries, api.Entry{ID: 254})
		if !slices.Equal(b.Offer, offer) {
			t.Fatalf("two lists share: %+v", b)
		}
		spoil(b.Offer, run(254, 254, 254))
		if !untouched(givenR, givenP, r, p) {
			t.Fatalf("shared: %+v %+v", givenR, givenP)
		}
	}
	cases(check)
	for _, r := range wrongReplicas() {
		check(r, pull(3, run(0, 1, 3)))
	}
	for _, p := range wrongNotes(3) {
		check(some(), p)
	}
	for _, p := range staleNotes(3) {
		check(some(), p)
	}
}

// Rule 5: lists far beyond every limit end, too.
func TestManyOfAll(t *testing.T) {
	const count = 100000
	many := api.Replica{Rep: 2, Filter: 255, Seq: 9, Know: slices.Repeat([]api.Run{run(0, 1, 1)}, count), Held: slices.Repeat([]api.Entry{ghost(4, ver(1, 1, 1), 1)}, count)}
	p := pull(2, many.Know...)
	refused(t, "both", many, p, api.Wrong)
	refused(t, "replica", many, pull(2), api.Wrong)
	refused(t, "note", listed(1), p, api.BadNote)
	p.Know, p.Entries = nil, many.Held
	refused(t, "Entries", listed(1), p, api.BadNote)
}

// The document's example, and what comes of a replica that was written to.
func TestExample(t *testing.T) {
	r, _ := replica.New(0, 255)
	r, _ = replica.Put(r, 3, 77)
	got, e := source.Answer(r, pull(0, run(0, 1, 1)))
	if e != nil || len(got.Entries) != 0 || !got.Done {
		t.Errorf("all known: %+v %v", got, e)
	}
	r, _ = replica.Delete(r, 3)
	r, _ = replica.Put(r, 4, 8)
	narrow := through(pull(0, run(0, 1, 1)), 1<<7)
	answers(t, "one known", r, narrow, api.Note{
		Kind: api.Batch, From: 0, To: 5, Num: 0x11223344, Entries: []api.Entry{dead(3, ver(0, 2, 2)), ghost(4, ver(0, 3, 1), 0)},
		Next: 5, Done: true, Offer: []api.Run{run(0, 1, 3)},
	})
}
