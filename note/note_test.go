package note_test

import (
	"bytes"
	"errors"
	"hash/crc32"
	"reflect"
	"slices"
	"strconv"
	"testing"

	"tidings/api"
	"tidings/note"
)

const most = api.MaxNumber

// run makes a run of a replica.
func run(rep uint8, from, to uint32) api.Run { return api.Run{Rep: rep, From: from, To: to} }

// singles makes count runs of the replica 3, of one number each.
func singles(count int) []api.Run {
	var k []api.Run
	for i := range uint32(count) {
		k = append(k, run(3, 2*i+1, 2*i+1))
	}
	return k
}

// valued makes a Real entry.
func valued(id uint8, value uint32) api.Entry {
	return api.Entry{ID: id, Ver: api.Ver{Rep: 7, Seq: 0x01020304, Stamp: 0xA0B0C0D0}, Kind: api.Real, Class: uint8(value % 8), Value: value}
}

// ghost makes a Ghost.
func ghost(id, class uint8) api.Entry {
	return api.Entry{ID: id, Ver: api.Ver{Rep: 0, Seq: most, Stamp: 1}, Kind: api.Ghost, Class: class}
}

// dead makes a Dead entry.
func dead(id uint8) api.Entry {
	return api.Entry{ID: id, Ver: api.Ver{Rep: 1, Seq: 1, Stamp: most}, Kind: api.Dead}
}

// pull makes a right Pull of few runs.
func pull() api.Note {
	return api.Note{Kind: api.Pull, From: 2, To: 5, Num: 0x11223344, Cursor: 9, Filter: 0xA5, Know: []api.Run{run(0, 1, 5), run(0, 7, 0x01020304), run(7, 2, most)}}
}

// batch makes a right Batch of those entries, that begins at the Cursor, and is Done.
func batch(cursor uint8, l ...api.Entry) api.Note {
	n := api.Note{Kind: api.Batch, From: 5, To: 2, Num: 0x11223344, Cursor: cursor, Epoch: 0x55667788, Entries: l, Next: cursor, Done: true}
	if len(l) > 0 {
		n.Next = l[len(l)-1].ID + 1
	}
	return n
}

// four makes MaxBatch entries, the last one of that ID.
func four(last uint8) []api.Entry {
	return []api.Entry{valued(0, 8), ghost(1, 7), dead(last - 1), valued(last, most)}
}

// with gives a note altered, its lists in memory of their own.
func with(n api.Note, alter func(*api.Note)) api.Note {
	n.Know, n.Entries, n.Offer = slices.Clone(n.Know), slices.Clone(n.Entries), slices.Clone(n.Offer)
	alter(&n)
	return n
}

// ends sets From and To.
func ends(from, to uint8) func(*api.Note) {
	return func(n *api.Note) { n.From, n.To = from, to }
}

// beyond sets a Cursor without Entries, and what a Batch's Next is then.
func beyond(cursor uint8) func(*api.Note) {
	return func(n *api.Note) {
		n.Cursor, n.Entries = cursor, nil
		if n.Kind == api.Batch {
			n.Next = cursor
		}
	}
}

// undone sets Done to false.
func undone(n *api.Note) { n.Done = false }

// rightNotes is right notes, ordinary ones and those at each edge.
func rightNotes() map[string]api.Note {
	offering := with(batch(0, ghost(3, 3)), func(n *api.Note) { n.Offer = []api.Run{run(1, 2, 3), run(1, 5, most), run(6, 1, 1)} })
	return map[string]api.Note{
		"a Pull":                          pull(),
		"the least Pull":                  {Kind: api.Pull, From: 0, To: 1, Num: 1},
		"a Pull, lists empty":             {Kind: api.Pull, From: 1, To: 0, Num: 1, Know: []api.Run{}, Entries: []api.Entry{}, Offer: []api.Run{}},
		"a Pull, From 7":                  with(pull(), ends(7, 6)),
		"a Pull, To 7":                    with(pull(), ends(6, 7)),
		"a Pull, Num at most":             with(pull(), func(n *api.Note) { n.Num = most }),
		"a Pull, Cursor 0":                with(pull(), func(n *api.Note) { n.Cursor = 0 }),
		"a Pull, Cursor 63":               with(pull(), func(n *api.Note) { n.Cursor = 63 }),
		"a Pull, Filter 0":                with(pull(), func(n *api.Note) { n.Filter = 0 }),
		"a Pull, Filter 255":              with(pull(), func(n *api.Note) { n.Filter = 255 }),
		"a Pull, MaxRuns":                 with(pull(), func(n *api.Note) { n.Know = singles(api.MaxRuns) }),
		"the least Batch":                 {Kind: api.Batch, From: 0, To: 1, Num: 1, Done: true},
		"a Batch, lists empty":            {Kind: api.Batch, From: 1, To: 0, Num: 1, Done: true, Know: []api.Run{}, Entries: []api.Entry{}, Offer: []api.Run{}},
		"a Batch, no Entries":             batch(5),
		"a Batch, no Entries, Cursor 63":  batch(63),
		"a Batch, From 7":                 with(batch(5), ends(7, 0)),
		"a Batch, To 7":                   with(batch(5), ends(0, 7)),
		"a Batch, Num 1":                  with(batch(5), func(n *api.Note) { n.Num = 1 }),
		"a Batch, Epoch at most":          with(batch(5), func(n *api.Note) { n.Epoch = most }),
		"a Batch, an Entry at the Cursor": batch(5, valued(5, 12)),
		"a Batch, an Entry far behind":    batch(5, dead(60)),
		"a Batch, an Entry of ID 0":       batch(0, ghost(0, 0)),
		"a Batch, an Entry of ID 63":      batch(63, valued(63, most)),
		"a Batch, three Entries":          batch(2, valued(2, 0), ghost(9, 6), dead(62)),
		"a Batch, MaxBatch":               batch(0, four(9)...),
		"a Batch, MaxBatch, more":         with(batch(0, four(9)...), undone),
		"a Batch, MaxBatch, Next 63":      batch(0, four(62)...),
		"a Batch, MaxBatch, 63, more":     with(batch(0, four(62)...), undone),
		"a Batch, MaxBatch, Next 64":      batch(0, four(63)...),
		"a Batch, MaxBatch, Cursor 20":    with(batch(20, dead(20), dead(30), dead(31), dead(40)), undone),
		"a Batch, an Offer":               offering,
		"a Batch, an Offer alone":         with(batch(0), func(n *api.Note) { n.Offer = []api.Run{run(7, 1, most)} }),
		"a Batch, an Offer of MaxRuns":    with(offering, func(n *api.Note) { n.Offer = singles(api.MaxRuns) }),
		"the greatest Batch": with(batch(0, four(62)...), func(n *api.Note) {
			n.Offer, n.Done = singles(api.MaxRuns), false
		}),
	}
}

// wrongBoth is a Pull and a Batch for each way in which what both have may be wrong.
func wrongBoth() map[string]api.Note {
	alters := map[string]func(*api.Note){
		"From 8":        ends(8, 0),
		"From 255":      ends(255, 0),
		"To 8":          ends(0, 8),
		"To 255":        ends(0, 255),
		"From and To 8": ends(8, 8),
		"From as To, 0": ends(0, 0),
		"From as To, 7": ends(7, 7),
		"Num 0":         func(n *api.Note) { n.Num = 0 },
		"Cursor 64":     beyond(64),
		"Cursor 255":    beyond(255),
	}
	out := map[string]api.Note{}
	for name, alter := range alters {
		out["a Pull, "+name] = with(pull(), alter)
		out["a Batch, "+name] = with(batch(9, dead(20)), alter)
	}
	return out
}

// wrongLists is a note for each way in which its runs, or its Entries, may be wrong.
func wrongLists() map[string]api.Note {
	out := map[string]api.Note{}
	for name, k := range map[string][]api.Run{
		"of Rep 8":          {run(8, 1, 1)},
		"from 0":            {run(1, 0, 1)},
		"To below From":     {run(1, 2, 1)},
		"that fall":         {run(2, 1, 1), run(1, 1, 1)},
		"that overlap":      {run(2, 1, 5), run(2, 5, 6)},
		"that touch":        {run(2, 1, 5), run(2, 6, 6)},
		"more than MaxRuns": singles(api.MaxRuns + 1),
		"255 of them":       singles(255),
	} {
		out["Know "+name] = with(pull(), func(n *api.Note) { n.Know = k })
		out["Offer "+name] = with(batch(0, dead(3)), func(n *api.Note) { n.Offer = k })
	}
	of := func(alter func(*api.Entry)) api.Note {
		e := valued(20, 3)
		alter(&e)
		return batch(9, dead(10), e)
	}
	for name, n := range map[string]api.Note{
		"of ID 64":           of(func(e *api.Entry) { e.ID = 64 }),
		"of ID 254":          of(func(e *api.Entry) { e.ID = 254 }),
		"of Rep 8":           of(func(e *api.Entry) { e.Ver.Rep = 8 }),
		"of Seq 0":           of(func(e *api.Entry) { e.Ver.Seq = 0 }),
		"of Stamp 0":         of(func(e *api.Entry) { e.Ver.Stamp = 0 }),
		"of Kind 0":          of(func(e *api.Entry) { e.Kind = 0 }),
		"of Kind 4":          of(func(e *api.Entry) { e.Kind = 4 }),
		"of another Class":   of(func(e *api.Entry) { e.Class = 4 }),
		"Ghosts of Class 8":  batch(9, ghost(20, 8)),
		"Ghosts of a Value":  batch(9, api.Entry{ID: 20, Ver: dead(0).Ver, Kind: api.Ghost, Value: 8}),
		"Dead, of a Class":   batch(9, api.Entry{ID: 20, Ver: dead(0).Ver, Kind: api.Dead, Class: 1}),
		"that fall":          batch(9, dead(20), dead(19)),
		"two alike":          batch(9, dead(20), dead(20)),
		"one more, more":     with(batch(9, dead(10), dead(11), dead(12), dead(13), dead(14)), undone),
		"one more than four": batch(9, dead(10), dead(11), dead(12), dead(13), dead(14)),
	} {
		out["Entries "+name] = n
	}
	var all []api.Entry
	for id := range uint8(api.MaxItems) {
		all = append(all, dead(id))
	}
	out["Entries of all items"] = batch(0, all...)
	return out
}

// wrongEnds is a Batch for each way in which Cursor, Next, Done and Offer may be wrong together.
func wrongEnds() map[string]api.Note {
	next := func(n api.Note, by uint8) api.Note {
		return with(n, func(n *api.Note) { n.Next += by })
	}
	return map[string]api.Note{
		"first ID below Cursor":       batch(5, dead(4)),
		"first ID below, last not":    batch(5, dead(4), dead(5), dead(6)),
		"first ID 0, Cursor 63":       batch(63, dead(0), dead(63)),
		"Next one less":               next(batch(5, dead(5), dead(9)), 255),
		"Next one more":               next(batch(5, dead(5), dead(9)), 1),
		"Next one less, 63":           next(batch(5, dead(63)), 255),
		"Next one more, 65":           next(batch(5, dead(63)), 1),
		"Next 0":                      with(batch(5, dead(5)), func(n *api.Note) { n.Next = 0 }),
		"Next the Cursor":             with(batch(5, dead(5)), func(n *api.Note) { n.Next = 5 }),
		"no Entries, Next one less":   next(batch(5), 255),
		"no Entries, Next one more":   next(batch(5), 1),
		"no Entries, Next 255":        next(batch(0), 255),
		"no Entries, Next 64":         next(batch(0), 64),
		"not Done, no Entries":        with(batch(5), undone),
		"not Done, one":               with(batch(5, dead(5)), undone),
		"not Done, three":             with(batch(5, dead(5), dead(6), dead(7)), undone),
		"not Done, four, Next 64":     with(batch(0, four(63)...), undone),
		"not Done, four, Next 0":      with(batch(0, four(63)...), func(n *api.Note) { n.Done, n.Next = false, 0 }),
		"an Offer, Cursor 1":          with(batch(1, dead(1)), func(n *api.Note) { n.Offer = []api.Run{run(1, 1, 1)} }),
		"an Offer, Cursor 63":         with(batch(63), func(n *api.Note) { n.Offer = []api.Run{run(1, 1, 1)} }),
		"an Offer, wrong, Cursor 1":   with(batch(1), func(n *api.Note) { n.Offer = []api.Run{run(8, 1, 1)} }),
		"two wrongs: Num, and Offer":  with(batch(1), func(n *api.Note) { n.Num, n.Offer = 0, singles(2) }),
		"two wrongs: From, and Next":  with(batch(1), func(n *api.Note) { n.From, n.Next = 200, 200 }),
		"two wrongs: Done, and count": with(batch(1, dead(3), dead(2)), undone),
	}
}

// unwritable is wrong notes that no bytes tell: of the other kind's fields, or of numbers that fields don't hold.
func unwritable() map[string]api.Note {
	out := map[string]api.Note{
		"zero":                     {},
		"a Pull, an Epoch":         with(pull(), func(n *api.Note) { n.Epoch = 1 }),
		"a Pull, an Entry":         with(pull(), func(n *api.Note) { n.Entries = []api.Entry{dead(20)} }),
		"a Pull, a Next":           with(pull(), func(n *api.Note) { n.Next = 1 }),
		"a Pull, Next the Cursor":  with(pull(), func(n *api.Note) { n.Next = n.Cursor }),
		"a Pull, Done":             with(pull(), func(n *api.Note) { n.Done = true }),
		"a Pull, an Offer":         with(pull(), func(n *api.Note) { n.Offer = []api.Run{run(1, 1, 1)} }),
		"a Pull, an Offer, at 0":   with(pull(), func(n *api.Note) { n.Cursor, n.Offer = 0, []api.Run{run(1, 1, 1)} }),
		"a Batch, a Filter":        with(batch(5), func(n *api.Note) { n.Filter = 1 }),
		"a Batch, Filter 255":      with(batch(5), func(n *api.Note) { n.Filter = 255 }),
		"a Batch, a Know":          with(batch(5), func(n *api.Note) { n.Know = []api.Run{run(1, 1, 1)} }),
		"a Batch, a Know, wrong":   with(batch(5), func(n *api.Note) { n.Know = []api.Run{run(8, 0, 0)} }),
		"Know of 256 runs":         with(pull(), func(n *api.Note) { n.Know = singles(256) }),
		"Offer of 256 runs":        with(batch(0), func(n *api.Note) { n.Offer = singles(256) }),
		"Offer of 256 + 64 runs":   with(batch(0), func(n *api.Note) { n.Offer = singles(256 + api.MaxRuns) }),
		"260 Entries, all alike":   batch(0, slices.Repeat([]api.Entry{dead(3)}, 260)...),
		"an Entry of the Kind 257": batch(9, api.Entry{ID: 20, Ver: dead(0).Ver, Kind: 257}),
		"an Entry of the Kind 259": batch(9, api.Entry{ID: 20, Ver: dead(0).Ver, Kind: 259}),
		"an Entry of the Kind -1":  batch(9, api.Entry{ID: 20, Ver: dead(0).Ver, Kind: -1}),
		"an Entry of ID 255":       batch(9, api.Entry{ID: 255, Ver: dead(0).Ver, Kind: api.Dead}),
	}
	for _, kind := range []int{-1, 0, 3, 4, 255, 256, 257, 258, -255, -254, 1<<32 + 1, -1 << 63} {
		for name, n := range map[string]api.Note{"a Pull": pull(), "a Batch": batch(5), "the least": {From: 1, Num: 1}} {
			n.Kind = kind
			out[name+", of the Kind "+strconv.Itoa(kind)] = n
		}
	}
	return out
}

// wrongs is all wrong notes that bytes tell.
func wrongs() map[string]api.Note {
	out := wrongBoth()
	for _, more := range []map[string]api.Note{wrongLists(), wrongEnds()} {
		for name, n := range more {
			out[name] = n
		}
	}
	return out
}

// number is the bytes of a number, the highest one first.
func number(n uint32) []byte { return []byte{byte(n >> 24), byte(n >> 16), byte(n >> 8), byte(n)} }

// runFields is the fields of how many runs there are, and of each.
func runFields(k []api.Run) [][]byte {
	out := [][]byte{{byte(len(k))}}
	for _, r := range k {
		out = append(out, []byte{r.Rep}, number(r.From), number(r.To))
	}
	return out
}

// fields is a note's bytes, field by field, by the document's words alone.
func fields(n api.Note) [][]byte {
	out := [][]byte{{byte(n.Kind)}, {n.From}, {n.To}, number(n.Num), {n.Cursor}}
	if n.Kind == api.Pull {
		return slices.Concat(out, [][]byte{{n.Filter}}, runFields(n.Know))
	}
	out = append(out, number(n.Epoch), []byte{byte(len(n.Entries))})
	for _, e := range n.Entries {
		out = append(out, []byte{e.ID}, []byte{e.Ver.Rep}, number(e.Ver.Seq), number(e.Ver.Stamp), []byte{byte(e.Kind)}, []byte{e.Class}, number(e.Value))
	}
	done := byte(0)
	if n.Done {
		done = 1
	}
	return slices.Concat(out, [][]byte{{n.Next}, {done}}, runFields(n.Offer))
}

// payload is a note's bytes.
func payload(n api.Note) []byte { return bytes.Join(fields(n), nil) }

// donePlace is where a Batch's Done is.
func donePlace(n api.Note) int { return 14 + 16*len(n.Entries) }

// frame is a payload's frame.
func frame(b []byte) []byte {
	f := slices.Concat([]byte{byte(len(b) >> 8), byte(len(b))}, b)
	return append(f, number(crc32.ChecksumIEEE(f))...)
}

// placeOfFault is where a payload can't be read any more, or has more bytes than fields, by the document's words; or it is read to its end.
func placeOfFault(b []byte) (at int, all bool) {
	stopped := false
	take := func(size int) uint8 {
		if stopped || at+size > len(b) {
			stopped = true
			return 0
		}
		at += size
		return b[at-size]
	}
	allowed := func(low, high uint8) {
		if c := take(1); !stopped && (c < low || c > high) {
			at--
			stopped = true
		}
	}
	list := func(sizes ...int) {
		for range take(1) {
			for _, size := range sizes {
				take(size)
			}
		}
	}
	allowed(1, 2)
	for _, size := range []int{1, 1, 4, 1} {
		take(size)
	}
	if !stopped && b[0] == 1 {
		take(1)
		list(1, 4, 4)
	} else if !stopped {
		take(4)
		list(1, 1, 4, 4, 1, 1, 4)
		take(1)
		allowed(0, 1)
		list(1, 4, 4)
	}
	return at, !stopped && at == len(b)
}

// plain gives a note with nil for lists without elements, so that alike ones compare so.
func plain(n api.Note) api.Note {
	if len(n.Know) == 0 {
		n.Know = nil
	}
	if len(n.Entries) == 0 {
		n.Entries = nil
	}
	if len(n.Offer) == 0 {
		n.Offer = nil
	}
	return n
}

// alike tells whether two notes say the same.
func alike(a, b api.Note) bool { return reflect.DeepEqual(plain(a), plain(b)) }

// refused fails unless Read tells of a payload's frame nothing, and a fault at that place.
func refused(t *testing.T, name string, b []byte, at int) {
	t.Helper()
	n, e := note.Read(frame(b))
	var fault *api.Fault
	if !errors.As(e, &fault) || fault.At != at || !errors.Is(e, api.BadNote) || !alike(n, api.Note{}) {
		t.Errorf("%s: % X: %v %v, not at %v", name, b, n, e, at)
	}
}

// P4.1: which notes are right.
func TestRight(t *testing.T) {
	for name, n := range rightNotes() {
		if !note.Right(n) {
			t.Errorf("%s: not right: %v", name, n)
		}
	}
	for name, n := range wrongs() {
		if note.Right(n) {
			t.Errorf("%s: right: %v", name, n)
		}
	}
	for name, n := range unwritable() {
		if note.Right(n) {
			t.Errorf("%s: right: %v", name, n)
		}
	}
}

// P4.1: From and To, of each kind: below MaxReps, and not alike.
func TestRightOfEveryTwoReplicas(t *testing.T) {
	for from := range 256 {
		for to := range 256 {
			want := from < 8 && to < 8 && from != to
			for _, n := range []api.Note{pull(), batch(5)} {
				n.From, n.To = uint8(from), uint8(to)
				if note.Right(n) != want {
					t.Fatalf("from %v to %v: not %v", from, to, want)
				}
			}
		}
	}
}

// P4.1: each Cursor, Next and Done, of each count of Entries.
func TestRightOfEveryEnd(t *testing.T) {
	for cursor := range 256 {
		for next := range 256 {
			for count := range 6 {
				var l []api.Entry
				for i := range count {
					l = append(l, dead(uint8(56+2*i)))
				}
				end := cursor
				if count > 0 {
					end = 56 + 2*count - 1
				}
				in := cursor < 64 && next == end && count <= 4 && (count == 0 || cursor <= 56)
				n := batch(uint8(cursor), l...)
				n.Next = uint8(next)
				if got := note.Right(n); got != in {
					t.Fatalf("Done: Cursor %v, Next %v, %v Entries: %v", cursor, next, count, got)
				}
				n.Done = false
				if got, want := note.Right(n), in && count == 4; got != want {
					t.Fatalf("not Done: Cursor %v, Next %v, %v Entries: %v", cursor, next, count, got)
				}
			}
		}
	}
}

// P4.1: bytes that are written out here.
func TestWriteOfFew(t *testing.T) {
	for _, c := range []struct {
		n    api.Note
		want []byte
	}{
		{api.Note{Kind: api.Pull, From: 1, To: 0, Num: 1, Filter: 255}, []byte{1, 1, 0, 0, 0, 0, 1, 0, 255, 0}},
		{pull(), []byte{
			1, 2, 5, 0x11, 0x22, 0x33, 0x44, 9, 0xA5, 3,
			0, 0, 0, 0, 1, 0, 0, 0, 5,
			0, 0, 0, 0, 7, 1, 2, 3, 4,
			7, 0, 0, 0, 2, 255, 255, 255, 255,
		}},
		{api.Note{Kind: api.Batch, From: 0, To: 7, Num: 2, Cursor: 63, Epoch: 256, Next: 63, Done: true}, []byte{2, 0, 7, 0, 0, 0, 2, 63, 0, 0, 1, 0, 0, 63, 1, 0}},
		{with(batch(0, valued(3, 0x0A0B0C0D), ghost(4, 6), dead(5), dead(62)), func(n *api.Note) { n.Offer, n.Done = []api.Run{run(6, 1, 258)}, false }), []byte{
			2, 5, 2, 0x11, 0x22, 0x33, 0x44, 0, 0x55, 0x66, 0x77, 0x88, 4,
			3, 7, 1, 2, 3, 4, 0xA0, 0xB0, 0xC0, 0xD0, 1, 5, 0x0A, 0x0B, 0x0C, 0x0D,
			4, 0, 255, 255, 255, 255, 0, 0, 0, 1, 2, 6, 0, 0, 0, 0,
			5, 1, 0, 0, 0, 1, 255, 255, 255, 255, 3, 0, 0, 0, 0, 0,
			62, 1, 0, 0, 0, 1, 255, 255, 255, 255, 3, 0, 0, 0, 0, 0,
			63, 0, 1, 6, 0, 0, 0, 1, 0, 0, 1, 2,
		}},
	} {
		if f, e := note.Write(c.n); e != nil || !bytes.Equal(f, frame(c.want)) {
			t.Errorf("%v: % X %v", c.n, f, e)
		}
		if n, e := note.Read(frame(c.want)); e != nil || !alike(n, c.n) {
			t.Errorf("% X: %v %v", c.want, n, e)
		}
	}
}

// P4.1, P4.2, P4.3: right notes are written, read back, and written to the same bytes.
func TestWriteAndRead(t *testing.T) {
	for name, n := range rightNotes() {
		f, e := note.Write(n)
		if e != nil || !bytes.Equal(f, frame(payload(n))) {
			t.Errorf("%s: written: % X %v", name, f, e)
		}
		got, e := note.Read(frame(payload(n)))
		if e != nil || !alike(got, n) || !note.Right(got) {
			t.Errorf("%s: read: %v %v", name, got, e)
		}
		if again, e := note.Write(got); e != nil || !bytes.Equal(again, f) {
			t.Errorf("%s: written again: % X %v", name, again, e)
		}
	}
}

// P4.1: BadNote.
func TestWriteOfWrongs(t *testing.T) {
	for _, l := range []map[string]api.Note{wrongs(), unwritable()} {
		for name, n := range l {
			if f, e := note.Write(n); len(f) != 0 || !errors.Is(e, api.BadNote) {
				t.Errorf("%s: % X %v", name, f, e)
			}
		}
	}
}

// P4.2: all is read, but the note isn't right: at the payload's end.
func TestReadOfWrongs(t *testing.T) {
	for name, n := range wrongs() {
		refused(t, name, payload(n), len(payload(n)))
	}
}

// P4.2: cut at each of its places: where the field begins that is cut, or that isn't there any more.
func TestReadOfCut(t *testing.T) {
	for _, l := range []map[string]api.Note{rightNotes(), wrongs()} {
		for name, n := range l {
			begin := 0
			for _, f := range fields(n) {
				for cut := range f {
					refused(t, name, payload(n)[:begin+cut], begin)
				}
				begin += len(f)
			}
		}
	}
}

// P4.2: bytes behind the last field: at the first one of them, also if the note isn't right.
func TestReadOfBytesBehind(t *testing.T) {
	for _, l := range []map[string]api.Note{rightNotes(), wrongs()} {
		for name, n := range l {
			b := payload(n)
			for _, behind := range [][]byte{{0}, {1}, {255, 255}, b[:min(len(b), 900)], make([]byte, api.MaxPayload-len(b))} {
				if len(b)+len(behind) <= api.MaxPayload && len(behind) > 0 {
					refused(t, name, slices.Concat(b, behind), len(b))
				}
			}
		}
	}
}

// P4.2: a Kind that there is none such of: at 0, whatever is behind it.
func TestReadOfAnotherKind(t *testing.T) {
	for kind := range 256 {
		if kind == api.Pull || kind == api.Batch {
			continue
		}
		for name, n := range rightNotes() {
			b := payload(n)
			b[0] = byte(kind)
			refused(t, name, b, 0)
			refused(t, name+", cut", b[:3], 0)
			refused(t, name+", the Kind alone", b[:1], 0)
			refused(t, name+", bytes behind", append(b, 0), 0)
		}
	}
	refused(t, "nothing", nil, 0)
}

// P4.2: a Done above 1: at its place, ahead of what is wrong behind it, and of a note that isn't right.
func TestReadOfAnotherDone(t *testing.T) {
	for name, n := range map[string]api.Note{
		"no Entries": batch(5),
		"three":      batch(5, dead(5), valued(6, 1), ghost(7, 1)),
		"four":       with(batch(0, four(9)...), func(n *api.Note) { n.Offer = singles(2) }),
		"wrong":      with(batch(5, dead(4), dead(3)), ends(9, 9)),
	} {
		at := donePlace(n)
		for done := 2; done < 256; done++ {
			b := payload(n)
			b[at] = byte(done)
			refused(t, name, b, at)
			refused(t, name+", cut behind", b[:at+1], at)
			refused(t, name+", bytes behind", append(b, 0), at)
		}
		refused(t, name+", cut at Done", payload(n)[:at], at)
		refused(t, name+", cut behind a right Done", payload(n)[:at+1], at+1)
	}
}

// P4.2: a list that says more than there is, or less.
func TestReadOfAnotherCount(t *testing.T) {
	for said := range 256 {
		b := payload(pull())
		b[9] = byte(said)
		switch {
		case said < 3:
			refused(t, "fewer runs", b, 10+9*said)
		case said > 3:
			refused(t, "more runs", b, len(b))
			// What follows of a run that is cut is named field by field.
			refused(t, "more runs, Rep", append(b, 1), len(b)+1)
			refused(t, "more runs, From", append(b, 1, 0, 0, 0, 1), len(b)+5)
			refused(t, "more runs, To", append(b, 1, 0, 0, 0, 1, 0, 0, 0), len(b)+5)
		}
		n := batch(5, dead(5), dead(6))
		c := payload(n)
		c[len(c)-1] = byte(said)
		if said > 0 {
			refused(t, "more offered", c, len(c))
		}
		// Next, Done and Offer, of 0 runs, are 3 bytes: ID, Rep and a part of Seq.
		d := payload(n)
		d[12] = byte(said)
		if said > 2 {
			refused(t, "more Entries", d, len(d)-1)
		}
	}
}

// P4.2: as many as a byte may say, all of them there: none is too many to be read, but the note isn't right.
func TestReadOfTheLongestLists(t *testing.T) {
	long := slices.Concat(payload(pull())[:9], []byte{255}, make([]byte, 255*9))
	refused(t, "255 runs", long, len(long))
	refused(t, "254 runs, and a part", long[:len(long)-1], len(long)-4)
	refused(t, "255 runs, bytes behind", append(long, 7), len(long))
	full := slices.Concat(payload(batch(0))[:12], []byte{255}, make([]byte, 255*16), []byte{0, 1, 0})
	if len(full) != api.MaxPayload {
		t.Fatalf("%v bytes", len(full))
	}
	refused(t, "255 Entries", full, len(full))
	refused(t, "255 Entries, cut", full[:len(full)-1], len(full)-1)
	refused(t, "zeros", make([]byte, api.MaxPayload), 0)
	refused(t, "ones", bytes.Repeat([]byte{1}, api.MaxPayload), 10+9)
	refused(t, "twos", bytes.Repeat([]byte{2}, api.MaxPayload), 13+2*16+1)
}

// P4.2: layer 3's errors come first, as they are.
func TestReadOfWhatIsNoFrame(t *testing.T) {
	told := func(name string, f []byte, want api.Code) {
		t.Helper()
		n, e := note.Read(f)
		var fault *api.Fault
		if !errors.Is(e, want) || errors.As(e, &fault) || !alike(n, api.Note{}) {
			t.Errorf("%s: %v %v, not %v", name, n, e, want)
		}
	}
	told("nil", nil, api.BadFrame)
	told("6 bytes", make([]byte, 6), api.BadSum)
	told("too long", frame(make([]byte, api.MaxPayload+1)), api.BadFrame)
	for name, n := range rightNotes() {
		for _, b := range [][]byte{payload(n), payload(n)[:5], append(payload(n), 1)} {
			f := frame(b)
			told(name+", cut", f[:len(f)-1], api.BadFrame)
			told(name+", one behind", append(bytes.Clone(f), 0), api.BadFrame)
			told(name+", no frame", b, api.BadFrame)
			for at := range f {
				spoiled := bytes.Clone(f)
				spoiled[at] ^= 4
				want := api.BadSum
				if at < 2 {
					want = api.BadFrame
				}
				told(name+", spoiled", spoiled, want)
			}
		}
	}
}

// readsAsTold fails unless what is read of a payload is as the document's words say; it is for payloads of which it isn't known ahead.
func readsAsTold(t *testing.T, b []byte) {
	t.Helper()
	n, e := note.Read(frame(b))
	at, all := placeOfFault(b)
	if e == nil {
		f, e := note.Write(n)
		if !all || !note.Right(n) || e != nil || !bytes.Equal(f, frame(b)) {
			t.Fatalf("% X: read, as %v", b, n)
		}
		return
	}
	var fault *api.Fault
	if !errors.As(e, &fault) || !errors.Is(e, api.BadNote) || fault.At != at || !alike(n, api.Note{}) {
		t.Fatalf("% X: %v %v, not at %v", b, n, e, at)
	}
}

// P4.2, P4.3: each byte of right and wrong notes, altered in every way: what is still read is right, and written to the same bytes.
func TestReadOfEachByteAltered(t *testing.T) {
	for _, l := range []map[string]api.Note{rightNotes(), wrongEnds()} {
		for _, n := range l {
			b := payload(n)
			for at := range min(len(b), 120) {
				for by := 1; by < 256; by++ {
					b[at] ^= byte(by)
					readsAsTold(t, b)
					b[at] ^= byte(by)
				}
			}
		}
	}
}

// P4.3: short payloads, of all bytes that matter, in every order.
func TestReadOfEveryShortPayload(t *testing.T) {
	var from func(b []byte, size int)
	from = func(b []byte, size int) {
		readsAsTold(t, b)
		if len(b) == size {
			return
		}
		for _, c := range []byte{0, 1, 2, 64} {
			from(append(b, c), size)
		}
	}
	from(make([]byte, 0, 8), 6)
	from(append(make([]byte, 0, 20), 1, 1, 0, 0, 0, 0, 1), 13)
	from(append(make([]byte, 0, 30), 2, 1, 0, 0, 0, 0, 1, 0, 0, 0, 0, 5), 18)
}

// P4.3: what is read where the note is right as a Pull or as a Batch: all Cursors and Nexts of a Batch without Entries.
func TestReadOfEveryCursorAndNext(t *testing.T) {
	for cursor := range 256 {
		for next := range 256 {
			n := batch(uint8(cursor))
			n.Next = uint8(next)
			if cursor == next && cursor < 64 {
				if got, e := note.Read(frame(payload(n))); e != nil || !alike(got, n) {
					t.Fatalf("%v: %v %v", cursor, got, e)
				}
			} else {
				refused(t, "another Next", payload(n), 16)
			}
		}
	}
}

// Rule 3: what is handed in stays, its spare room too, and what is answered isn't bound to it.
func TestArgumentsStay(t *testing.T) {
	for name, n := range rightNotes() {
		f := append(frame(payload(n)), 1, 2, 3, 4, 5, 6, 7, 8)
		was := bytes.Clone(f)
		got, e := note.Read(f[:len(f)-8])
		if e != nil || !bytes.Equal(f, was) {
			t.Fatalf("%s: read: the frame is changed, or %v", name, e)
		}
		for i := range f {
			f[i] ^= 255
		}
		if !alike(got, n) {
			t.Errorf("%s: what was read is bound to the frame", name)
		}
		spare := with(n, func(n *api.Note) {
			n.Know = append(n.Know, run(9, 9, 9))[:len(n.Know)]
			n.Entries = append(n.Entries, dead(99))[:len(n.Entries)]
			n.Offer = append(n.Offer, run(9, 9, 9))[:len(n.Offer)]
		})
		note.Write(spare)
		note.Right(spare)
		room := spare.Know[:len(n.Know)+1][len(n.Know)] == run(9, 9, 9) && spare.Entries[:len(n.Entries)+1][len(n.Entries)] == dead(99) && spare.Offer[:len(n.Offer)+1][len(n.Offer)] == run(9, 9, 9)
		if !alike(spare, n) || !room {
			t.Errorf("%s: written: what was handed in is changed", name)
		}
	}
}

// Rule 4: what a call answers hangs on its arguments alone, also behind one that was refused.
func TestCallsAreAlone(t *testing.T) {
	first, _ := note.Write(pull())
	note.Read(frame(payload(batch(0, four(9)...))[:40]))
	note.Write(api.Note{})
	again, e := note.Write(pull())
	if e != nil || !bytes.Equal(first, again) {
		t.Errorf("% X, then % X %v", first, again, e)
	}
	if n, e := note.Read(first); e != nil || !alike(n, pull()) {
		t.Errorf("%v %v", n, e)
	}
}
