package target_test

import (
	"cmp"
	"errors"
	"reflect"
	"slices"
	"testing"

	"tidings/api"
	"tidings/note"
	"tidings/replica"
	"tidings/target"
)

const most = api.MaxNumber

// run makes a run of a replica.
func run(rep uint8, from, to uint32) api.Run { return api.Run{Rep: rep, From: from, To: to} }

// runs makes a list of runs.
func runs(l ...api.Run) []api.Run { return l }

// singles makes count runs of a replica, of one number each: 2, 4 and so on.
func singles(rep uint8, count int) []api.Run {
	var k []api.Run
	for i := range uint32(count) {
		k = append(k, run(rep, 2*i+2, 2*i+2))
	}
	return k
}

// ver makes a version.
func ver(rep uint8, seq, stamp uint32) api.Ver { return api.Ver{Rep: rep, Seq: seq, Stamp: stamp} }

// valued makes a Real entry.
func valued(id uint8, v api.Ver, value uint32) api.Entry {
	return api.Entry{ID: id, Ver: v, Kind: api.Real, Class: uint8(value % 8), Value: value}
}

// ghost makes a Ghost.
func ghost(id uint8, v api.Ver, class uint8) api.Entry {
	return api.Entry{ID: id, Ver: v, Kind: api.Ghost, Class: class}
}

// dead makes a Dead entry.
func dead(id uint8, v api.Ver) api.Entry { return api.Entry{ID: id, Ver: v, Kind: api.Dead} }

// entries makes a list of entries.
func entries(l ...api.Entry) []api.Entry { return l }

// waiting is a right replica that has something of all: its own and others' versions, each kind of entry, a Session that is On, behind some Batches. Its filter has the classes 0, 2, 5 and 7.
func waiting() api.Replica {
	return api.Replica{
		Rep: 3, Filter: 0b10100101, Epoch: 7, Seq: 9,
		Know: runs(run(0, 1, 4), run(3, 3, 5), run(3, 7, 9), run(7, 2, most)),
		Held: entries(
			valued(0, ver(0, 4, 2), 13),
			ghost(5, ver(3, 2, 1), 2),
			ghost(6, ver(3, 4, 8), 1),
			valued(9, ver(3, 8, 3), 16),
			dead(20, ver(3, 9, 3)),
			ghost(21, ver(7, 5, 6), 3),
			ghost(40, ver(1, most, most), 6),
			valued(63, ver(7, most, most-1), most),
		),
		Session: api.Session{On: true, Num: 4, From: 5, Cursor: 12, Epoch: 6, Offer: runs(run(3, 1, 9), run(6, 5, 5)), Last: 6},
	}
}

// starting is the same one ahead of its first Batch.
func starting() api.Replica {
	r := waiting()
	r.Session.Cursor, r.Session.Epoch, r.Session.Offer = 0, 0, nil
	return r
}

// idle is the same one with a Session that isn't On.
func idle() api.Replica { return quitted(waiting()) }

// quitted gives a replica with a Session that isn't On.
func quitted(r api.Replica) api.Replica {
	r.Session = api.Session{Last: r.Session.Last}
	return r
}

// bare is a right replica of the number 2 that knows and holds those, and waits for its first Batch.
func bare(filter uint8, k []api.Run, l ...api.Entry) api.Replica {
	return api.Replica{Rep: 2, Filter: filter, Seq: 9, Know: k, Held: l, Session: api.Session{On: true, Num: 1, From: 6, Last: 1}}
}

// reply is the Batch that a replica waits for, Done, of those Entries.
func reply(r api.Replica, l ...api.Entry) api.Note {
	s := r.Session
	b := api.Note{Kind: api.Batch, From: s.From, To: r.Rep, Num: s.Num, Cursor: s.Cursor, Epoch: s.Epoch, Entries: l, Next: s.Cursor, Done: true}
	if len(l) > 0 {
		b.Next = l[len(l)-1].ID + 1
	}
	return b
}

// part is a reply that isn't Done.
func part(r api.Replica, l ...api.Entry) api.Note {
	b := reply(r, l...)
	b.Done = false
	return b
}

// offering sets a note's Offer.
func offering(b api.Note, k ...api.Run) api.Note {
	b.Offer = k
	return b
}

// at gives a replica whose Session has come to a Cursor.
func at(r api.Replica, cursor uint8) api.Replica {
	r.Session.Cursor = cursor
	return r
}

// altered gives a replica altered, its lists in memory of their own.
func altered(r api.Replica, alter func(*api.Replica)) api.Replica {
	r.Know, r.Held, r.Session.Offer = slices.Clone(r.Know), slices.Clone(r.Held), slices.Clone(r.Session.Offer)
	alter(&r)
	return r
}

// with gives a note altered, its lists in memory of their own.
func with(b api.Note, alter func(*api.Note)) api.Note {
	b.Know, b.Entries, b.Offer = slices.Clone(b.Know), slices.Clone(b.Entries), slices.Clone(b.Offer)
	alter(&b)
	return b
}

// joined gives the runs of two lists as one set's, by the document's words alone, however many they are.
func joined(a, b []api.Run) []api.Run {
	all := slices.Concat(a, b)
	slices.SortFunc(all, func(x, y api.Run) int {
		return cmp.Or(cmp.Compare(x.Rep, y.Rep), cmp.Compare(x.From, y.From))
	})
	var out []api.Run
	for _, x := range all {
		last := len(out) - 1
		if last < 0 || out[last].Rep != x.Rep || uint64(out[last].To)+1 < uint64(x.From) {
			out = append(out, x)
		} else if out[last].To < x.To {
			out[last].To = x.To
		}
	}
	return out
}

// has tells whether runs have a version's Rep and Seq.
func has(k []api.Run, v api.Ver) bool {
	return slices.ContainsFunc(k, func(x api.Run) bool { return x.Rep == v.Rep && x.From <= v.Seq && v.Seq <= x.To })
}

// inFilter tells whether a filter has a class.
func inFilter(filter, class uint8) bool { return filter/(1<<class)%2 == 1 }

// alike: two replicas, nil and empty lists meaning the same.
func alike(a, b api.Replica) bool {
	for _, r := range []*api.Replica{&a, &b} {
		for _, k := range []*[]api.Run{&r.Know, &r.Session.Offer} {
			if len(*k) == 0 {
				*k = nil
			}
		}
		if len(r.Held) == 0 {
			r.Held = nil
		}
	}
	return reflect.DeepEqual(a, b)
}

// alikeNotes: two notes, nil and empty lists meaning the same.
func alikeNotes(a, b api.Note) bool {
	for _, n := range []*api.Note{&a, &b} {
		for _, k := range []*[]api.Run{&n.Know, &n.Offer} {
			if len(*k) == 0 {
				*k = nil
			}
		}
		if len(n.Entries) == 0 {
			n.Entries = nil
		}
	}
	return reflect.DeepEqual(a, b)
}

// pullOf is a replica's Pull, by the document's words; the zero note, if its Session isn't On.
func pullOf(r api.Replica) api.Note {
	s := r.Session
	if !s.On {
		return api.Note{}
	}
	return api.Note{Kind: api.Pull, From: r.Rep, To: s.From, Num: s.Num, Cursor: s.Cursor, Filter: r.Filter, Know: r.Know}
}

// begins fails unless a Session begins: that replica and its Pull are told.
func begins(t *testing.T, name string, r api.Replica, from uint8, want api.Replica) {
	t.Helper()
	out, pull, e := target.Begin(r, from)
	if e != nil || !alike(out, want) || !alikeNotes(pull, pullOf(want)) || !replica.Right(out) || !note.Right(pull) {
		t.Errorf("%s:\n%+v %+v %v, not\n%+v", name, out, pull, e, want)
	}
}

// beginsNot fails unless a Session is refused with that code, and nothing stands beside it.
func beginsNot(t *testing.T, name string, r api.Replica, from uint8, want api.Code) {
	t.Helper()
	out, pull, e := target.Begin(r, from)
	if !errors.Is(e, want) || !alike(out, api.Replica{}) || !alikeNotes(pull, api.Note{}) {
		t.Errorf("%s: %+v %+v %v, not %v", name, out, pull, e, want)
	}
}

// goesOn fails unless a replica's Pull is told again, and its Session can be left.
func goesOn(t *testing.T, name string, r api.Replica) {
	t.Helper()
	if pull, e := target.Again(r); e != nil || !alikeNotes(pull, pullOf(r)) || !note.Right(pull) {
		t.Errorf("%s: again: %+v %v", name, pull, e)
	}
	if out, e := target.Quit(r); e != nil || !alike(out, quitted(r)) || !replica.Right(out) {
		t.Errorf("%s: quit: %+v %v", name, out, e)
	}
}

// goesNotOn fails unless Again and Quit are refused with that code, and nothing stands beside it.
func goesNotOn(t *testing.T, name string, r api.Replica, want api.Code) {
	t.Helper()
	if pull, e := target.Again(r); !errors.Is(e, want) || !alikeNotes(pull, api.Note{}) {
		t.Errorf("%s: again: %+v %v, not %v", name, pull, e, want)
	}
	if out, e := target.Quit(r); !errors.Is(e, want) || !alike(out, api.Replica{}) {
		t.Errorf("%s: quit: %+v %v, not %v", name, out, e, want)
	}
}

// accepts fails unless a Batch is accepted: that replica is told, and, if its Session is On, its Pull, and more.
func accepts(t *testing.T, name string, r api.Replica, b api.Note, want api.Replica) {
	t.Helper()
	out, pull, more, e := target.Accept(r, b)
	if e != nil || !alike(out, want) || !alikeNotes(pull, pullOf(want)) || more != want.Session.On {
		t.Errorf("%s:\n%+v\n%+v %v %v, not\n%+v", name, out, pull, more, e, want)
		return
	}
	if !replica.Right(out) || more && !note.Right(pull) {
		t.Errorf("%s: not right: %+v %+v", name, out, pull)
	}
}

// refused fails unless a Batch is refused with that code, and nothing stands beside it.
func refused(t *testing.T, name string, r api.Replica, b api.Note, want api.Code) {
	t.Helper()
	out, pull, more, e := target.Accept(r, b)
	if !errors.Is(e, want) || !alike(out, api.Replica{}) || !alikeNotes(pull, api.Note{}) || more {
		t.Errorf("%s:\n%+v %+v %v %v, not %v", name, out, pull, more, e, want)
	}
}

// ended fails unless a Batch ends the Session, and nothing else is altered.
func ended(t *testing.T, name string, r api.Replica, b api.Note) {
	t.Helper()
	out, pull, more, e := target.Accept(r, b)
	if !errors.Is(e, api.Ended) || !alike(out, quitted(r)) || !replica.Right(out) || !alikeNotes(pull, api.Note{}) || more {
		t.Errorf("%s:\n%+v %+v %v %v, not Ended", name, out, pull, more, e)
	}
}

// moved gives an entry as of another item.
func moved(e api.Entry, id uint8) api.Entry {
	e.ID = id
	return e
}
