package replica_test

import (
	"errors"
	"reflect"
	"slices"
	"strconv"
	"testing"

	"tidings/api"
	"tidings/item"
	"tidings/know"
	"tidings/replica"
)

const most = api.MaxNumber

// run makes a run of a replica.
func run(rep uint8, from, to uint32) api.Run { return api.Run{Rep: rep, From: from, To: to} }

// singles makes count runs of a replica, of one number each: 2, 4 and so on.
func singles(rep uint8, count int) []api.Run {
	var k []api.Run
	for i := range uint32(count) {
		k = append(k, run(rep, 2*i+2, 2*i+2))
	}
	return k
}

// ver makes a version.
func ver(rep uint8, seq, stamp uint32) api.Ver { return api.Ver{Rep: rep, Seq: seq, Stamp: stamp} }

// valued makes a Real entry.
func valued(id uint8, v api.Ver, value uint32) api.Entry {
	return api.Entry{ID: id, Ver: v, Kind: api.Real, Class: uint8(value % 8), Value: value}
}

// ghost makes a Ghost.
func ghost(id uint8, v api.Ver, class uint8) api.Entry {
	return api.Entry{ID: id, Ver: v, Kind: api.Ghost, Class: class}
}

// dead makes a Dead entry.
func dead(id uint8, v api.Ver) api.Entry { return api.Entry{ID: id, Ver: v, Kind: api.Dead} }

// some is a right replica that has something of all: its own and others' versions, each kind of entry, a Session that is On. Its filter has the classes 0, 2, 5 and 7.
func some() api.Replica {
	return api.Replica{
		Rep: 3, Filter: 0b10100101, Epoch: 7, Seq: 9,
		Know: []api.Run{run(0, 1, 4), run(3, 3, 5), run(3, 7, 9), run(7, 2, most)},
		Held: []api.Entry{
			valued(0, ver(0, 4, 2), 13),
			ghost(5, ver(3, 2, 1), 2),
			ghost(6, ver(3, 4, 8), 1),
			valued(9, ver(3, 8, 3), 16),
			dead(20, ver(3, 9, 3)),
			ghost(21, ver(7, 5, 6), 3),
			ghost(40, ver(1, most, most), 6),
			valued(63, ver(7, most, most-1), most),
		},
		Session: api.Session{On: true, Num: 4, From: 5, Cursor: 12, Epoch: 6, Offer: []api.Run{run(3, 1, 9), run(6, 5, 5)}, Last: 6},
	}
}

// with gives a replica altered, its lists in memory of their own.
func with(r api.Replica, alters ...func(*api.Replica)) api.Replica {
	r.Know, r.Held, r.Session.Offer = slices.Clone(r.Know), slices.Clone(r.Held), slices.Clone(r.Session.Offer)
	for _, alter := range alters {
		alter(&r)
	}
	return r
}

// quit sets the Session to one that isn't On.
func quit(r *api.Replica) { r.Session = api.Session{Last: r.Session.Last} }

// ofRep sets the replica's number alone.
func ofRep(rep uint8) func(*api.Replica) {
	return func(r *api.Replica) { r.Rep = rep }
}

// holding sets what is held.
func holding(l ...api.Entry) func(*api.Replica) {
	return func(r *api.Replica) { r.Held = l }
}

// knowing sets what is known.
func knowing(k ...api.Run) func(*api.Replica) {
	return func(r *api.Replica) { r.Know = k }
}

// session alters the Session.
func session(alter func(*api.Session)) func(*api.Replica) {
	return func(r *api.Replica) { alter(&r.Session) }
}

// atStart sets a Session as it is ahead of the first Batch.
func atStart(r *api.Replica) { r.Session.Cursor, r.Session.Epoch, r.Session.Offer = 0, 0, nil }

// bare is a replica of the number 2 that has nothing, of the filter 255 and the Seq 9.
func bare() api.Replica { return api.Replica{Rep: 2, Filter: 255, Seq: 9} }

// full is a right replica that knows MaxRuns runs, of the replica 0 its even numbers, and holds nothing.
func full() api.Replica { return with(bare(), knowing(singles(0, api.MaxRuns)...)) }

// rightReplicas is right replicas, ordinary ones and those at each edge.
func rightReplicas() map[string]api.Replica {
	seqMost := func(r *api.Replica) { r.Seq = most }
	items := func(r *api.Replica) {
		r.Know = []api.Run{run(1, 1, 64)}
		for id := range uint8(api.MaxItems) {
			r.Held = append(r.Held, dead(id, ver(1, uint32(id)+1, 1)))
		}
	}
	return map[string]api.Replica{
		"zero":                         {},
		"lists empty":                  {Know: []api.Run{}, Held: []api.Entry{}, Session: api.Session{Offer: []api.Run{}}},
		"some":                         some(),
		"some, not On":                 with(some(), quit),
		"Rep 7":                        {Rep: 7, Filter: 255},
		"Rep 7, that writes":           with(bare(), ofRep(7), knowing(run(7, 9, 9)), holding(valued(1, ver(7, 9, 1), 1))),
		"Epoch at most":                with(some(), func(r *api.Replica) { r.Epoch = most }),
		"Seq at most":                  with(some(), seqMost),
		"Seq at most, known":           with(bare(), seqMost, knowing(run(2, most, most)), holding(dead(1, ver(2, most, 1)))),
		"own known up to Seq":          with(bare(), knowing(run(2, 9, 9))),
		"own known below Seq":          with(bare(), knowing(run(2, 1, 8))),
		"of others known above Seq":    with(bare(), knowing(run(1, 10, 10), run(3, 1, most))),
		"own held at Seq":              with(bare(), holding(ghost(1, ver(2, 9, 1), 1))),
		"of others held above Seq":     with(bare(), holding(ghost(1, ver(1, 10, 1), 1), ghost(2, ver(3, most, 1), 1))),
		"MaxRuns known":                full(),
		"MaxItems held":                with(bare(), items),
		"versions of one Rep":          with(bare(), holding(ghost(1, ver(1, 1, 1), 1), ghost(2, ver(1, 2, 1), 1))),
		"versions of one Seq":          with(bare(), holding(ghost(1, ver(1, 1, 1), 1), ghost(2, ver(3, 1, 1), 1))),
		"a Ghost known, in the filter": with(bare(), knowing(run(1, 1, 1)), holding(ghost(1, ver(1, 1, 1), 1))),
		"a Ghost outside, not known":   with(bare(), func(r *api.Replica) { r.Filter = 0 }, holding(ghost(1, ver(1, 1, 1), 1))),
		"Dead, of the filter 0":        with(bare(), func(r *api.Replica) { r.Filter = 0 }, knowing(run(1, 1, 1)), holding(dead(1, ver(1, 1, 1)))),
		"On, Num 1":                    with(some(), session(func(s *api.Session) { s.Num = 1 })),
		"On, Num 1, Last 1":            with(some(), session(func(s *api.Session) { s.Num, s.Last = 1, 1 })),
		"On, Num Last":                 with(some(), session(func(s *api.Session) { s.Num = s.Last })),
		"On, Num and Last at most":     with(some(), session(func(s *api.Session) { s.Num, s.Last = most, most })),
		"On, From 0":                   with(some(), session(func(s *api.Session) { s.From = 0 })),
		"On, From 7":                   with(some(), session(func(s *api.Session) { s.From = 7 })),
		"On, Cursor 1":                 with(some(), session(func(s *api.Session) { s.Cursor = 1 })),
		"On, Cursor 63":                with(some(), session(func(s *api.Session) { s.Cursor = 63 })),
		"On, Cursor 63, all else 0":    with(some(), atStart, session(func(s *api.Session) { s.Cursor = 63 })),
		"On, Cursor 0":                 with(some(), atStart),
		"On, Epoch at most":            with(some(), session(func(s *api.Session) { s.Epoch = most })),
		"On, an Offer of others":       with(some(), session(func(s *api.Session) { s.Offer = []api.Run{run(2, 1, most), run(4, 1, most)} })),
		"On, an Offer of MaxRuns":      with(some(), session(func(s *api.Session) { s.Offer = singles(4, api.MaxRuns) })),
		"not On, Last at most":         with(some(), quit, session(func(s *api.Session) { s.Last = most })),
		"not On, an Offer of none":     with(some(), quit, session(func(s *api.Session) { s.Offer = []api.Run{} })),
	}
}

// wrongRuns is a list for each way in which runs may fail to be right.
func wrongRuns() map[string][]api.Run {
	return map[string][]api.Run{
		"of Rep 8":          {run(8, 1, 1)},
		"from 0":            {run(0, 0, 1)},
		"To below From":     {run(0, 2, 1)},
		"that fall":         {run(1, 1, 1), run(0, 1, 1)},
		"that overlap":      {run(0, 1, 5), run(0, 5, 6)},
		"that touch":        {run(0, 1, 5), run(0, 6, 6)},
		"more than MaxRuns": singles(0, api.MaxRuns+1),
	}
}

// wrongKnow is replicas that are wrong by their number, or by what they know.
func wrongKnow() map[string]api.Replica {
	out := map[string]api.Replica{
		"Rep 8":                  with(bare(), ofRep(8)),
		"Rep 255":                with(bare(), ofRep(255)),
		"Rep 8, some":            with(some(), ofRep(8)),
		"own known above Seq":    with(bare(), knowing(run(2, 10, 10))),
		"own known to above Seq": with(bare(), knowing(run(1, 1, 1), run(2, 1, 3), run(2, 9, 10), run(3, 1, 1))),
		"own known, Seq 0":       with(bare(), func(r *api.Replica) { r.Seq = 0 }, knowing(run(2, 1, 1))),
		"own known, Seq most-1":  with(bare(), func(r *api.Replica) { r.Seq = most - 1 }, knowing(run(2, 1, most))),
		"own known, Rep 0":       with(bare(), ofRep(0), knowing(run(0, 1, 10))),
		"own known, Rep 7":       with(bare(), ofRep(7), knowing(run(7, 1, 10))),
	}
	for name, k := range wrongRuns() {
		out["Know "+name] = with(bare(), knowing(k...))
		out["Know "+name+", some"] = with(some(), func(r *api.Replica) { r.Know = slices.Concat(r.Know, k) })
	}
	return out
}

// wrongHeld is replicas that are wrong by what they hold.
func wrongHeld() map[string]api.Replica {
	v, next := ver(1, 1, 1), ver(1, 2, 1)
	all := knowing(run(1, 1, most))
	filter := func(f uint8) func(*api.Replica) {
		return func(r *api.Replica) { r.Filter = f }
	}
	return map[string]api.Replica{
		"Held that fall":                with(bare(), holding(ghost(2, v, 1), ghost(1, next, 1))),
		"Held of one ID":                with(bare(), holding(ghost(2, v, 1), ghost(2, next, 1))),
		"Held of ID 64":                 with(bare(), holding(ghost(64, v, 1))),
		"Held of Rep 8":                 with(bare(), holding(ghost(1, ver(8, 1, 1), 1))),
		"Held of Seq 0":                 with(bare(), holding(ghost(1, ver(1, 0, 1), 1))),
		"Held of Stamp 0":               with(bare(), holding(ghost(1, ver(1, 1, 0), 1))),
		"Held of Kind 0":                with(bare(), all, holding(api.Entry{ID: 1, Ver: v})),
		"Held of Kind 4":                with(bare(), all, holding(api.Entry{ID: 1, Ver: v, Kind: 4})),
		"Held of another Class":         with(bare(), all, holding(api.Entry{ID: 1, Ver: v, Kind: api.Real, Class: 1, Value: 2})),
		"a Ghost of a Value":            with(bare(), all, holding(api.Entry{ID: 1, Ver: v, Kind: api.Ghost, Value: 8})),
		"Dead of a Class":               with(bare(), all, holding(api.Entry{ID: 1, Ver: v, Kind: api.Dead, Class: 1})),
		"two alike":                     with(bare(), holding(ghost(1, v, 1), ghost(2, v, 1))),
		"two alike, of two kinds":       with(bare(), all, holding(dead(1, v), valued(2, v, 1))),
		"two alike, of two Stamps":      with(bare(), holding(ghost(1, v, 1), ghost(2, ver(1, 1, 2), 1))),
		"two alike, the first and last": with(bare(), holding(ghost(0, v, 1), ghost(1, next, 1), ghost(63, v, 1))),
		"two alike, own":                with(bare(), holding(ghost(1, ver(2, 1, 1), 1), ghost(2, ver(2, 1, 1), 1))),
		"own held above Seq":            with(bare(), holding(ghost(1, ver(2, 10, 1), 1))),
		"own held above Seq, last":      with(bare(), holding(ghost(1, v, 1), ghost(2, ver(2, most, 1), 1))),
		"own held, Seq 0":               with(bare(), func(r *api.Replica) { r.Seq = 0 }, holding(ghost(1, ver(2, 1, 1), 1))),
		"Real, outside":                 with(bare(), all, filter(255-1<<5), holding(valued(1, v, 5))),
		"Real, of the filter 0":         with(bare(), all, filter(0), holding(valued(1, v, 0))),
		"Real, outside, last":           with(bare(), all, filter(1<<7), holding(valued(1, v, 7), valued(2, next, 14))),
		"Real, not known":               with(bare(), knowing(run(1, 2, most)), holding(valued(1, v, 5))),
		"Real, known of another Rep":    with(bare(), knowing(run(0, 1, 9), run(2, 1, 9)), holding(valued(1, v, 5))),
		"Real, not known, last":         with(bare(), knowing(run(1, 1, 1)), holding(valued(1, v, 5), valued(2, next, 5))),
		"Real, own, not known":          with(bare(), knowing(run(2, 1, 8)), holding(valued(1, ver(2, 9, 1), 5))),
		"Real, nothing known":           with(bare(), holding(valued(1, v, 5))),
		"Dead, not known":               with(bare(), knowing(run(1, 2, most)), holding(dead(1, v))),
		"Dead, nothing known":           with(bare(), holding(dead(1, v))),
		"Dead, own, not known":          with(bare(), knowing(run(2, 1, 8)), holding(dead(1, ver(2, 9, 1)))),
		"Dead, not known, filter 0":     with(bare(), filter(0), holding(dead(1, v))),
	}
}

// wrongSessions is replicas that are wrong by their Session.
func wrongSessions() map[string]api.Replica {
	on := func(alter func(*api.Session)) api.Replica { return with(some(), session(alter)) }
	start := func(alter func(*api.Session)) api.Replica { return with(some(), atStart, session(alter)) }
	off := func(alter func(*api.Session)) api.Replica { return with(some(), quit, session(alter)) }
	offer := []api.Run{run(1, 1, 1)}
	out := map[string]api.Replica{
		"On, Num 0":                  on(func(s *api.Session) { s.Num = 0 }),
		"On, Num 0, Last 0":          on(func(s *api.Session) { s.Num, s.Last = 0, 0 }),
		"On, Num Last and one":       on(func(s *api.Session) { s.Num = s.Last + 1 }),
		"On, Num at most, Last less": on(func(s *api.Session) { s.Num, s.Last = most, most-1 }),
		"On, Num 1, Last 0":          on(func(s *api.Session) { s.Num, s.Last = 1, 0 }),
		"On, From 8":                 on(func(s *api.Session) { s.From = 8 }),
		"On, From 255":               on(func(s *api.Session) { s.From = 255 }),
		"On, From itself":            on(func(s *api.Session) { s.From = 3 }),
		"On, From itself, 0":         with(some(), ofRep(0), session(func(s *api.Session) { s.From = 0 })),
		"On, From itself, 7":         with(bare(), ofRep(7), session(func(s *api.Session) { s.On, s.Num, s.Last, s.From = true, 1, 1, 7 })),
		"On, Cursor 64":              on(func(s *api.Session) { s.Cursor = 64 }),
		"On, Cursor 255":             on(func(s *api.Session) { s.Cursor = 255 }),
		"On, own offered above Seq":  on(func(s *api.Session) { s.Offer = []api.Run{run(3, 10, 10)} }),
		"On, own offered, to above":  on(func(s *api.Session) { s.Offer = []api.Run{run(2, 1, 1), run(3, 1, 10), run(4, 1, 1)} }),
		"On, Cursor 0, an Epoch":     start(func(s *api.Session) { s.Epoch = 1 }),
		"On, Cursor 0, an Offer":     start(func(s *api.Session) { s.Offer = offer }),
		"On, Cursor 0, both":         start(func(s *api.Session) { s.Epoch, s.Offer = most, offer }),
		"On, all else 0":             with(bare(), session(func(s *api.Session) { s.On = true })),
		"not On, a Num":              off(func(s *api.Session) { s.Num = 1 }),
		"not On, a From":             off(func(s *api.Session) { s.From = 1 }),
		"not On, From itself":        off(func(s *api.Session) { s.From = 3 }),
		"not On, a Cursor":           off(func(s *api.Session) { s.Cursor = 1 }),
		"not On, an Epoch":           off(func(s *api.Session) { s.Epoch = 1 }),
		"not On, an Offer":           off(func(s *api.Session) { s.Offer = offer }),
		"not On, an Offer, wrong":    off(func(s *api.Session) { s.Offer = []api.Run{run(8, 0, 0)} }),
		"not On, all but that":       on(func(s *api.Session) { s.On = false }),
	}
	for name, k := range wrongRuns() {
		out["On, an Offer "+name] = on(func(s *api.Session) { s.Offer = k })
	}
	return out
}

// wrongs is all replicas that aren't right.
func wrongs() map[string]api.Replica {
	out := map[string]api.Replica{}
	for _, more := range []map[string]api.Replica{wrongKnow(), wrongHeld(), wrongSessions()} {
		for name, r := range more {
			out[name] = r
		}
	}
	return out
}

// alike: two replicas, nil and empty lists meaning the same.
func alike(a, b api.Replica) bool {
	for _, r := range []*api.Replica{&a, &b} {
		for _, k := range []*[]api.Run{&r.Know, &r.Session.Offer} {
			if len(*k) == 0 {
				*k = nil
			}
		}
		if len(r.Held) == 0 {
			r.Held = nil
		}
	}
	return reflect.DeepEqual(a, b)
}

// told fails unless a call told just that replica.
func told(t *testing.T, name string, want api.Replica) func(api.Replica, error) {
	return func(got api.Replica, e error) {
		t.Helper()
		if e != nil || !alike(got, want) || !replica.Right(got) {
			t.Errorf("%s:\n%+v %v, not\n%+v", name, got, e, want)
		}
	}
}

// refused fails unless a call told that code, and nothing beside it.
func refused(t *testing.T, name string, want api.Code) func(api.Replica, error) {
	return func(got api.Replica, e error) {
		t.Helper()
		if !alike(got, api.Replica{}) || !errors.Is(e, want) {
			t.Errorf("%s: %+v %v, not %v", name, got, e, want)
		}
	}
}

// P5.1: what is right.
func TestRight(t *testing.T) {
	for name, r := range rightReplicas() {
		if !replica.Right(r) {
			t.Errorf("%s: not right: %+v", name, r)
		}
	}
	for name, r := range wrongs() {
		if replica.Right(r) {
			t.Errorf("%s: right: %+v", name, r)
		}
	}
}

// meant tells whether a replica is right, by the document's words one by one, runs and entries being the layers' below.
func meant(r api.Replica) bool {
	ok := r.Rep < 8 && know.Right(r.Know) && item.Right(r.Held) && know.Right(r.Session.Offer)
	for _, x := range slices.Concat(r.Know, r.Session.Offer) {
		ok = ok && (x.Rep != r.Rep || x.To <= r.Seq)
	}
	for i, e := range r.Held {
		for _, x := range r.Held[i+1:] {
			ok = ok && (e.Ver.Rep != x.Ver.Rep || e.Ver.Seq != x.Ver.Seq)
		}
		known := false
		for _, x := range r.Know {
			known = known || x.Rep == e.Ver.Rep && x.From <= e.Ver.Seq && e.Ver.Seq <= x.To
		}
		ok = ok && (e.Ver.Rep != r.Rep || e.Ver.Seq <= r.Seq)
		ok = ok && (e.Kind != api.Real || known && r.Filter/(1<<(e.Class%8))%2 == 1)
		ok = ok && (e.Kind != api.Dead || known)
	}
	s := r.Session
	none := s.Epoch == 0 && len(s.Offer) == 0
	if s.On {
		return ok && s.Num >= 1 && s.Num <= s.Last && s.From < 8 && s.From != r.Rep && s.Cursor < 64 && (s.Cursor > 0 || none)
	}
	return ok && s.Num == 0 && s.From == 0 && s.Cursor == 0 && none
}

// changes calls do with a replica in which one field is altered, of each field and some values.
func changes(r api.Replica, do func(api.Replica)) {
	small := func(field func(*api.Replica) *uint8) {
		for _, n := range []uint8{0, 1, 2, 3, 4, 5, 6, 7, 8, 11, 12, 13, 62, 63, 64, 128, 255} {
			do(with(r, func(x *api.Replica) { *field(x) = n }))
		}
	}
	number := func(field func(*api.Replica) *uint32) {
		was := *field(&r)
		for _, n := range []uint32{0, 1, 2, 3, 5, 8, 9, 10, was - 1, was + 1, 1 << 31, most - 1, most} {
			do(with(r, func(x *api.Replica) { *field(x) = n }))
		}
	}
	runs := func(list func(*api.Replica) []api.Run) {
		for i := range list(&r) {
			small(func(x *api.Replica) *uint8 { return &list(x)[i].Rep })
			number(func(x *api.Replica) *uint32 { return &list(x)[i].From })
			number(func(x *api.Replica) *uint32 { return &list(x)[i].To })
		}
	}
	small(func(x *api.Replica) *uint8 { return &x.Rep })
	small(func(x *api.Replica) *uint8 { return &x.Filter })
	number(func(x *api.Replica) *uint32 { return &x.Epoch })
	number(func(x *api.Replica) *uint32 { return &x.Seq })
	runs(func(x *api.Replica) []api.Run { return x.Know })
	for i := range r.Held {
		small(func(x *api.Replica) *uint8 { return &x.Held[i].ID })
		small(func(x *api.Replica) *uint8 { return &x.Held[i].Ver.Rep })
		number(func(x *api.Replica) *uint32 { return &x.Held[i].Ver.Seq })
		number(func(x *api.Replica) *uint32 { return &x.Held[i].Ver.Stamp })
		small(func(x *api.Replica) *uint8 { return &x.Held[i].Class })
		number(func(x *api.Replica) *uint32 { return &x.Held[i].Value })
		for _, kind := range []int{-1, 0, api.Real, api.Ghost, api.Dead, 4, 257} {
			do(with(r, func(x *api.Replica) { x.Held[i].Kind = kind }))
		}
	}
	do(with(r, session(func(s *api.Session) { s.On = !s.On })))
	number(func(x *api.Replica) *uint32 { return &x.Session.Num })
	small(func(x *api.Replica) *uint8 { return &x.Session.From })
	small(func(x *api.Replica) *uint8 { return &x.Session.Cursor })
	number(func(x *api.Replica) *uint32 { return &x.Session.Epoch })
	number(func(x *api.Replica) *uint32 { return &x.Session.Last })
	runs(func(x *api.Replica) []api.Run { return x.Session.Offer })
}

// P5.1: right replicas with each field altered, held against a second reading of the document.
func TestRightOfAlteredOnes(t *testing.T) {
	held := 0
	for name, r := range rightReplicas() {
		if len(r.Know)+len(r.Held)+len(r.Session.Offer) > 20 {
			continue
		}
		changes(r, func(x api.Replica) {
			if got := replica.Right(x); got != meant(x) {
				t.Fatalf("%s: %v: %+v", name, got, x)
			}
			held++
		})
	}
	if held < 10000 {
		t.Errorf("only %v were held against it", held)
	}
}

// P5.1: a few with two fields altered.
func TestRightOfTwiceAlteredOnes(t *testing.T) {
	few := api.Replica{
		Rep: 3, Filter: 4, Seq: 9, Know: []api.Run{run(3, 3, 9)}, Held: []api.Entry{valued(5, ver(3, 8, 2), 2)},
		Session: api.Session{On: true, Num: 2, From: 5, Cursor: 12, Epoch: 1, Offer: []api.Run{run(3, 1, 9)}, Last: 3},
	}
	for _, r := range []api.Replica{few, with(few, atStart), with(few, quit)} {
		changes(r, func(x api.Replica) {
			changes(x, func(y api.Replica) {
				if got := replica.Right(y); got != meant(y) {
					t.Fatalf("%v: %+v", got, y)
				}
			})
		})
	}
}

// P5.1: each number that one may have, and may not.
func TestNew(t *testing.T) {
	for rep := range 256 {
		for _, filter := range []uint8{0, 1, 128, 170, 255} {
			got, e := replica.New(uint8(rep), filter)
			if rep < 8 {
				told(t, strconv.Itoa(rep), api.Replica{Rep: uint8(rep), Filter: filter})(got, e)
			} else {
				refused(t, strconv.Itoa(rep), api.Wrong)(got, e)
			}
		}
	}
}

// P5.1: what is Real is read, and nothing else.
func TestGet(t *testing.T) {
	want := map[int]uint32{0: 13, 9: 16, 63: most}
	for id := range 256 {
		value, there := want[id]
		got, e := replica.Get(some(), uint8(id))
		if there && (got != value || e != nil) || !there && (got != 0 || !errors.Is(e, api.Nothing)) {
			t.Errorf("%v: %v %v", id, got, e)
		}
	}
	zero := with(bare(), knowing(run(1, 1, 1)), holding(valued(0, ver(1, 1, 1), 0)))
	if got, e := replica.Get(zero, 0); got != 0 || e != nil {
		t.Errorf("the value 0: %v %v", got, e)
	}
	for _, id := range []uint8{0, 63, 64, 255} {
		if got, e := replica.Get(api.Replica{}, id); got != 0 || !errors.Is(e, api.Nothing) {
			t.Errorf("of one that has nothing, %v: %v %v", id, got, e)
		}
	}
}

// P5.1: any replica is read, right or not: by what is held of the item first.
func TestGetOfAnyReplica(t *testing.T) {
	odd := api.Replica{Rep: 200, Held: []api.Entry{
		{ID: 255, Kind: api.Real, Value: 5}, {ID: 64, Kind: api.Real, Class: 7, Value: 6}, {ID: 3, Kind: api.Dead, Value: 7}, {ID: 3, Kind: api.Real, Value: 8},
		{ID: 2, Kind: api.Real, Value: 9}, {ID: 2, Kind: api.Dead}, {ID: 1, Kind: api.Real + 256, Value: 1}, {ID: 0, Value: 1}, {ID: 4, Kind: api.Ghost, Value: 8},
	}}
	all := wrongs()
	all["odd"] = odd
	for name, r := range all {
		for id := range 256 {
			at := slices.IndexFunc(r.Held, func(e api.Entry) bool { return int(e.ID) == id })
			got, e := replica.Get(r, uint8(id))
			if at >= 0 && r.Held[at].Kind == api.Real {
				if e != nil || got != r.Held[at].Value {
					t.Errorf("%s, %v: %v %v", name, id, got, e)
				}
			} else if got != 0 || !errors.Is(e, api.Nothing) {
				t.Errorf("%s, %v: %v %v", name, id, got, e)
			}
		}
	}
}

// behind gives what a replica should be when it has written an entry, whose version is still to be set; by the document's words.
func behind(r api.Replica, e api.Entry) api.Replica {
	stamp := uint32(1)
	var held []api.Entry
	for _, h := range r.Held {
		if h.ID == e.ID {
			stamp = h.Ver.Stamp + 1
		} else {
			held = append(held, h)
		}
	}
	e.Ver = ver(r.Rep, r.Seq+1, stamp)
	held = append(held, e)
	slices.SortFunc(held, func(a, b api.Entry) int { return int(a.ID) - int(b.ID) })
	r.Seq++
	r.Held = held
	r.Know = slices.Clone(r.Know)
	end := slices.IndexFunc(r.Know, func(x api.Run) bool { return x.Rep > r.Rep })
	if end < 0 {
		end = len(r.Know)
	}
	if end > 0 && r.Know[end-1].Rep == r.Rep && r.Know[end-1].To == r.Seq-1 {
		r.Know[end-1].To++
	} else {
		r.Know = slices.Insert(r.Know, end, run(r.Rep, r.Seq, r.Seq))
	}
	return r
}

// room tells whether a replica may write of an item.
func room(r api.Replica, id uint8) bool {
	for _, h := range r.Held {
		if h.ID == id && h.Ver.Stamp == most {
			return false
		}
	}
	return r.Seq < most && len(behind(r, dead(id, api.Ver{})).Know) <= api.MaxRuns
}

// P5.2: of each right replica each item, and values of each class.
func TestPut(t *testing.T) {
	for name, r := range rightReplicas() {
		for id := range uint8(api.MaxItems) {
			for _, value := range []uint32{0, 1, 7, 8, 10, 259, most - 3, most} {
				switch {
				case r.Filter>>(value%8)%2 == 0:
					refused(t, name, api.Outside)(replica.Put(r, id, value))
				case !room(r, id):
					refused(t, name, api.TooMany)(replica.Put(r, id, value))
				default:
					told(t, name, behind(r, valued(id, api.Ver{}, value)))(replica.Put(r, id, value))
				}
			}
		}
	}
}

// P5.2: of each right replica each item.
func TestDelete(t *testing.T) {
	for name, r := range rightReplicas() {
		for id := range uint8(api.MaxItems) {
			_, e := replica.Get(r, id)
			switch {
			case e != nil:
				refused(t, name, api.Nothing)(replica.Delete(r, id))
			case !room(r, id):
				refused(t, name, api.TooMany)(replica.Delete(r, id))
			default:
				told(t, name, behind(r, dead(id, api.Ver{})))(replica.Delete(r, id))
			}
		}
	}
}

// P5.2: what is written, told in full.
func TestWritten(t *testing.T) {
	r := some()
	r.Seq = 10
	for name, c := range map[string]struct {
		id   uint8
		want api.Entry
	}{
		"a new one":          {1, valued(1, ver(3, 11, 1), 21)},
		"over a Ghost":       {5, valued(5, ver(3, 11, 2), 21)},
		"over one of 1":      {0, valued(0, ver(3, 11, 3), 21)},
		"over one that died": {20, valued(20, ver(3, 11, 4), 21)},
		"the stamp at most":  {63, valued(63, ver(3, 11, most), 21)},
	} {
		got, e := replica.Put(r, c.id, 21)
		held, _ := item.Find(got.Held, c.id)
		if e != nil || held != c.want || got.Seq != 11 {
			t.Errorf("%s: %v %v", name, held, e)
		}
		if !slices.Equal(got.Know, []api.Run{run(0, 1, 4), run(3, 3, 5), run(3, 7, 9), run(3, 11, 11), run(7, 2, most)}) {
			t.Errorf("%s: %v", name, got.Know)
		}
	}
	got, e := replica.Delete(r, 9)
	if held, _ := item.Find(got.Held, 9); e != nil || held != dead(9, ver(3, 11, 4)) {
		t.Errorf("deleted: %v %v", held, e)
	}
}

// P5.2: Wrong, ahead of all else.
func TestWritesOfWrongs(t *testing.T) {
	for name, r := range wrongs() {
		for id := range 256 {
			for _, value := range []uint32{0, 1, 3, most} {
				refused(t, name, api.Wrong)(replica.Put(r, uint8(id), value))
			}
			refused(t, name, api.Wrong)(replica.Delete(r, uint8(id)))
		}
	}
	for name, r := range rightReplicas() {
		for _, id := range []uint8{64, 65, 128, 255} {
			for _, value := range []uint32{0, 1, 3, most} {
				refused(t, name, api.Wrong)(replica.Put(r, id, value))
			}
			refused(t, name, api.Wrong)(replica.Delete(r, id))
		}
	}
	good := with(bare(), knowing(run(1, 63, 63)), holding(valued(63, ver(1, 63, 1), 1)))
	told(t, "63 put", behind(good, valued(63, api.Ver{}, 3)))(replica.Put(good, 63, 3))
	told(t, "63 deleted", behind(good, dead(63, api.Ver{})))(replica.Delete(good, 63))
}

// P5.2: Outside is told of each class that the filter hasn't, and ahead of TooMany.
func TestPutOutside(t *testing.T) {
	for filter := range 256 {
		for class := range uint32(8) {
			r := with(bare(), func(r *api.Replica) { r.Filter = uint8(filter) })
			for _, value := range []uint32{class, class + 8, class + most - 7} {
				if filter/(1<<class)%2 == 1 {
					told(t, "in", behind(r, valued(4, api.Ver{}, value)))(replica.Put(r, 4, value))
				} else {
					refused(t, "outside", api.Outside)(replica.Put(r, 4, value))
				}
			}
		}
	}
	narrow := func(r *api.Replica) { r.Filter = 2 }
	for name, r := range map[string]api.Replica{
		"Seq at most":   with(bare(), narrow, func(r *api.Replica) { r.Seq = most }),
		"Stamp at most": with(bare(), narrow, holding(ghost(4, ver(1, 1, most), 0))),
		"MaxRuns known": with(full(), narrow),
	} {
		refused(t, name, api.Outside)(replica.Put(r, 4, 0))
		refused(t, name, api.TooMany)(replica.Put(r, 4, 1))
	}
}

// P5.2: Seq, and the Stamp of what is held, at most and one below.
func TestWritesAtMost(t *testing.T) {
	held := func(seq, stamp uint32) api.Replica {
		return with(bare(), func(r *api.Replica) { r.Seq = seq }, knowing(run(1, 1, 2)), holding(valued(4, ver(1, 1, stamp), 1), valued(5, ver(1, 2, 1), 2)))
	}
	for name, r := range map[string]api.Replica{"Seq": held(most, 3), "Stamp": held(9, most), "both": held(most, most)} {
		refused(t, name, api.TooMany)(replica.Put(r, 4, 7))
		refused(t, name, api.TooMany)(replica.Delete(r, 4))
	}
	for name, r := range map[string]api.Replica{"Seq": held(most-1, 3), "Stamp": held(9, most-1), "both": held(most-1, most-1)} {
		told(t, name, behind(r, valued(4, api.Ver{}, 7)))(replica.Put(r, 4, 7))
		told(t, name, behind(r, dead(4, api.Ver{})))(replica.Delete(r, 4))
	}
	// The Stamp of another item is in nobody's way; a Ghost's and a Dead one's is.
	told(t, "another item", behind(held(9, most), valued(5, api.Ver{}, 7)))(replica.Put(held(9, most), 5, 7))
	told(t, "a new item", behind(held(9, most), valued(6, api.Ver{}, 7)))(replica.Put(held(9, most), 6, 7))
	refused(t, "a Ghost's", api.TooMany)(replica.Put(with(held(9, 1), holding(ghost(4, ver(1, 1, most), 1))), 4, 7))
	refused(t, "a Dead one's", api.TooMany)(replica.Put(with(held(9, 1), holding(dead(4, ver(1, 1, most)))), 4, 7))
	refused(t, "Nothing first", api.Nothing)(replica.Delete(with(held(most, 1), holding(dead(4, ver(1, 1, most)))), 4))
	refused(t, "Nothing first, Ghost", api.Nothing)(replica.Delete(with(held(most, 1), holding(ghost(4, ver(1, 1, most), 1))), 4))
	refused(t, "Nothing first, none", api.Nothing)(replica.Delete(held(most, 1), 7))
}

// P5.2: MaxRuns runs known, and one more needed or not.
func TestWritesAtMaxRuns(t *testing.T) {
	even := singles(0, api.MaxRuns-1)
	l := holding(valued(4, ver(0, 2, 1), 1))
	for name, c := range map[string]struct {
		own []api.Run
		ok  bool
	}{
		"one more":      {[]api.Run{run(1, 1, 1)}, false},
		"own, below":    {[]api.Run{run(2, 1, 8)}, false},
		"own, at Seq":   {[]api.Run{run(2, 9, 9)}, true},
		"own, to Seq":   {[]api.Run{run(2, 2, 9)}, true},
		"the last":      {nil, true},
		"another's Seq": {[]api.Run{run(3, 1, 9)}, false},
	} {
		r := with(bare(), knowing(slices.Concat(even, c.own)...), l)
		put, deleted := refused(t, name, api.TooMany), refused(t, name, api.TooMany)
		if c.ok {
			put, deleted = told(t, name, behind(r, valued(4, api.Ver{}, 7))), told(t, name, behind(r, dead(4, api.Ver{})))
		}
		put(replica.Put(r, 4, 7))
		deleted(replica.Delete(r, 4))
	}
	refused(t, "Nothing first", api.Nothing)(replica.Delete(full(), 4))
}

// P5.2: a number that isn't known any more doesn't come again.
func TestSeqGoesOnBehindWhatIsForgotten(t *testing.T) {
	r := with(bare(), holding(ghost(4, ver(2, 9, 1), 4)))
	got, e := replica.Put(r, 5, 7)
	want := with(r, func(r *api.Replica) { r.Seq = 10 }, knowing(run(2, 10, 10)), holding(ghost(4, ver(2, 9, 1), 4), valued(5, ver(2, 10, 1), 7)))
	told(t, "put", want)(got, e)
}

// turned gives what a replica should be, its filter changed to another one; by the document's words, ghost by ghost. False: TooMany.
func turned(r api.Replica, filter uint8) (api.Replica, bool) {
	if r.Filter == filter {
		return r, true
	}
	if r.Epoch == most {
		return api.Replica{}, false
	}
	r = with(r, quit)
	for i, h := range r.Held {
		in := filter/(1<<h.Class)%2 == 1
		if h.Kind == api.Real && !in {
			r.Held[i] = ghost(h.ID, h.Ver, h.Class)
		}
		if h.Kind != api.Ghost || !in || !know.Has(r.Know, h.Ver.Rep, h.Ver.Seq) {
			continue
		}
		var out []api.Run
		for _, x := range r.Know {
			if x.Rep != h.Ver.Rep || h.Ver.Seq < x.From || x.To < h.Ver.Seq {
				out = append(out, x)
				continue
			}
			if x.From < h.Ver.Seq {
				out = append(out, run(x.Rep, x.From, h.Ver.Seq-1))
			}
			if h.Ver.Seq < x.To {
				out = append(out, run(x.Rep, h.Ver.Seq+1, x.To))
			}
		}
		if r.Know = out; len(out) > api.MaxRuns {
			return api.Replica{}, false
		}
	}
	r.Filter, r.Epoch = filter, r.Epoch+1
	return r, true
}

// P5.3: each right replica, changed to each filter.
func TestChange(t *testing.T) {
	for name, r := range rightReplicas() {
		for filter := range 256 {
			if want, ok := turned(r, uint8(filter)); ok {
				told(t, name, want)(replica.Change(r, uint8(filter)))
			} else {
				refused(t, name, api.TooMany)(replica.Change(r, uint8(filter)))
			}
		}
	}
}

// P5.3: what comes of each entry, told in full.
func TestChangeOfSome(t *testing.T) {
	got, e := replica.Change(some(), 0b00001110)
	told(t, "to 1, 2, 3", api.Replica{
		Rep: 3, Filter: 0b00001110, Epoch: 8, Seq: 9,
		Know: []api.Run{run(0, 1, 4), run(3, 3, 3), run(3, 5, 5), run(3, 7, 9), run(7, 2, 4), run(7, 6, most)},
		Held: []api.Entry{
			ghost(0, ver(0, 4, 2), 5), ghost(5, ver(3, 2, 1), 2), ghost(6, ver(3, 4, 8), 1), ghost(9, ver(3, 8, 3), 0),
			dead(20, ver(3, 9, 3)), ghost(21, ver(7, 5, 6), 3), ghost(40, ver(1, most, most), 6), ghost(63, ver(7, most, most-1), 7),
		},
		Session: api.Session{Last: 6},
	})(got, e)
	got, e = replica.Change(got, 0b10000000)
	if e != nil || got.Epoch != 9 || !slices.Equal(got.Know, []api.Run{run(0, 1, 4), run(3, 3, 3), run(3, 5, 5), run(3, 7, 9), run(7, 2, 4), run(7, 6, most-1)}) {
		t.Errorf("to 7: %v %v", got, e)
	}
	if value, e := replica.Get(got, 63); value != 0 || !errors.Is(e, api.Nothing) {
		t.Errorf("to 7, read: %v %v", value, e)
	}
}

// P5.3: a Ghost that both filters have is known no more, either.
func TestChangeOfAGhostInBoth(t *testing.T) {
	r := with(bare(), knowing(run(1, 1, 3)), holding(ghost(4, ver(1, 2, 1), 4), ghost(5, ver(1, 3, 1), 5)))
	want := with(r, func(r *api.Replica) { r.Filter, r.Epoch = 16, 1 }, knowing(run(1, 1, 1), run(1, 3, 3)))
	told(t, "to less", want)(replica.Change(r, 16))
}

// P5.3: to the filter that it has, all stays, also a Session that is On, and an Epoch at most.
func TestChangeToTheSame(t *testing.T) {
	for name, r := range rightReplicas() {
		told(t, name, r)(replica.Change(r, r.Filter))
	}
	if got, _ := replica.Change(some(), some().Filter); !got.Session.On || got.Epoch != 7 {
		t.Errorf("%+v", got)
	}
	last := with(some(), func(r *api.Replica) { r.Epoch = most })
	if got, e := replica.Change(last, last.Filter); e != nil || got.Epoch != most || !got.Session.On {
		t.Errorf("%+v %v", got, e)
	}
}

// P5.3: Wrong, also to the same filter; and Epoch at most, and one below.
func TestChangeRefused(t *testing.T) {
	for name, r := range wrongs() {
		for _, filter := range []uint8{r.Filter, 0, 85, 255} {
			refused(t, name, api.Wrong)(replica.Change(r, filter))
			refused(t, name+", Epoch at most", api.Wrong)(replica.Change(with(r, func(r *api.Replica) { r.Epoch = most }), filter))
		}
	}
	for _, filter := range []uint8{0, 1, 254} {
		r := with(bare(), func(r *api.Replica) { r.Epoch = most })
		refused(t, "Epoch at most", api.TooMany)(replica.Change(r, filter))
		r.Epoch--
		want := api.Replica{Rep: 2, Filter: filter, Epoch: most, Seq: 9}
		told(t, "Epoch one below", want)(replica.Change(r, filter))
	}
}

// wide makes a replica of the filter 1 that knows count runs, of the last one the numbers 1 to 9 of the replica 7, and holds ghosts.
func wide(count int, l ...api.Entry) api.Replica {
	return with(bare(), func(r *api.Replica) { r.Filter = 1 }, knowing(append(singles(0, count-1), run(7, 1, 9))...), holding(l...))
}

// P5.3: MaxRuns runs known, and one more needed, at the end or in between.
func TestChangeAtMaxRuns(t *testing.T) {
	split := func(id uint8) api.Entry { return ghost(id, ver(7, 5, 1), 3) }
	whole := func(id uint8) api.Entry { return ghost(id, ver(0, 2, 1), 3) }
	refuse := refused(t, "refused", api.TooMany)
	refuse(replica.Change(wide(api.MaxRuns, split(4)), 8))
	refuse(replica.Change(wide(api.MaxRuns, split(4), whole(5)), 8))
	refuse(replica.Change(wide(api.MaxRuns, split(4), whole(5)), 255))
	refuse(replica.Change(wide(api.MaxRuns, whole(4), split(5), ghost(6, ver(7, 7, 1), 3)), 8))
	for name, r := range map[string]api.Replica{
		"one fewer":       wide(api.MaxRuns-1, split(4)),
		"a whole first":   wide(api.MaxRuns, whole(4), split(5)),
		"at the begin":    wide(api.MaxRuns, ghost(4, ver(7, 1, 1), 3)),
		"at the end":      wide(api.MaxRuns, ghost(4, ver(7, 9, 1), 3)),
		"not known":       wide(api.MaxRuns, ghost(4, ver(7, 10, 1), 3)),
		"outside":         wide(api.MaxRuns, ghost(4, ver(7, 5, 1), 4)),
		"begin, then on":  wide(api.MaxRuns, ghost(4, ver(7, 1, 1), 3), ghost(5, ver(7, 2, 1), 3)),
		"two, two wholes": wide(api.MaxRuns, whole(4), ghost(5, ver(7, 3, 1), 3), ghost(6, ver(0, 4, 1), 3), ghost(7, ver(7, 6, 1), 3)),
	} {
		want, ok := turned(r, 8)
		if !ok || len(want.Know) > api.MaxRuns {
			t.Fatalf("%s: %v", name, want)
		}
		told(t, name, want)(replica.Change(r, 8))
	}
	// What fades takes nothing away, and to the same filter nothing goes.
	narrow := wide(api.MaxRuns, valued(4, ver(7, 5, 1), 8))
	want, _ := turned(narrow, 8)
	told(t, "faded", want)(replica.Change(narrow, 8))
	told(t, "the same", wide(api.MaxRuns, split(4)))(replica.Change(wide(api.MaxRuns, split(4)), 1))
}

// The document's example.
func TestExample(t *testing.T) {
	r, _ := replica.New(0, 255)
	r, _ = replica.Put(r, 3, 77)
	if value, e := replica.Get(r, 3); value != 77 || e != nil {
		t.Errorf("put: %v %v", value, e)
	}
	r, _ = replica.Delete(r, 3)
	if value, e := replica.Get(r, 3); value != 0 || !errors.Is(e, api.Nothing) {
		t.Errorf("deleted: %v %v", value, e)
	}
	told(t, "behind", api.Replica{Filter: 255, Seq: 2, Know: []api.Run{run(0, 1, 2)}, Held: []api.Entry{dead(3, ver(0, 2, 2))}})(r, nil)
}

// call is one that makes a replica of another one; of an item, where it writes.
type call struct {
	name   string
	do     func(api.Replica) (api.Replica, error)
	writes bool
	id     uint8
}

// calls is some of them: of two items, of values in three classes, and of three filters.
func calls() []call {
	var l []call
	for _, id := range []uint8{0, 1} {
		for _, value := range []uint32{0, 9, 18} {
			l = append(l, call{"Put " + strconv.Itoa(int(id)) + " " + strconv.Itoa(int(value)), func(r api.Replica) (api.Replica, error) { return replica.Put(r, id, value) }, true, id})
		}
		l = append(l, call{"Delete " + strconv.Itoa(int(id)), func(r api.Replica) (api.Replica, error) { return replica.Delete(r, id) }, true, id})
	}
	for _, filter := range []uint8{1, 2, 255} {
		l = append(l, call{"Change " + strconv.Itoa(int(filter)), func(r api.Replica) (api.Replica, error) { return replica.Change(r, filter) }, false, 0})
	}
	return l
}

// holds fails unless what follows of a call (P5.4) holds of what it told.
func holds(t *testing.T, c call, r, got api.Replica) {
	t.Helper()
	if !replica.Right(got) || !meant(got) {
		t.Fatalf("%s of %+v: not right: %+v", c.name, r, got)
	}
	for _, h := range r.Held {
		now, there := item.Find(got.Held, h.ID)
		if !there || item.Cmp(h.Ver, now.Ver) > 0 || c.writes && h.ID == c.id && item.Cmp(h.Ver, now.Ver) == 0 {
			t.Fatalf("%s of %+v: not greater: %+v", c.name, r, got)
		}
	}
	if !c.writes {
		return
	}
	now, there := item.Find(got.Held, c.id)
	value, e := replica.Get(got, c.id)
	read := e == nil && now.Kind == api.Real && value == now.Value || errors.Is(e, api.Nothing) && now.Kind == api.Dead
	if !there || !read || !know.Has(got.Know, now.Ver.Rep, now.Ver.Seq) || now.Ver.Rep != r.Rep || now.Ver.Seq != r.Seq+1 {
		t.Fatalf("%s of %+v: not read, or not known: %+v", c.name, r, got)
	}
}

// P5.4: of right replicas, whatever is done in a row.
func TestWhatFollows(t *testing.T) {
	var from func(r api.Replica, depth int)
	from = func(r api.Replica, depth int) {
		for _, c := range calls() {
			got, e := c.do(r)
			if e != nil {
				refused(t, c.name, e.(api.Code))(got, e)
				continue
			}
			holds(t, c, r, got)
			if depth > 1 {
				from(got, depth-1)
			}
		}
	}
	first, _ := replica.New(7, 255)
	from(first, 5)
	for _, r := range rightReplicas() {
		from(r, 2)
	}
}

// crowded gives a replica whose lists have spare room, of entries and runs of the number 255.
func crowded(r api.Replica) api.Replica {
	r.Know = append(slices.Clone(r.Know), run(255, 255, 255))[:len(r.Know)]
	r.Held = append(slices.Clone(r.Held), api.Entry{ID: 255})[:len(r.Held)]
	r.Session.Offer = append(slices.Clone(r.Session.Offer), run(255, 255, 255))[:len(r.Session.Offer)]
	return r
}

// untouched tells whether a crowded replica is as r, its spare room too.
func untouched(c, r api.Replica) bool {
	know, held, offer := c.Know[:len(c.Know)+1], c.Held[:len(c.Held)+1], c.Session.Offer[:len(c.Session.Offer)+1]
	return alike(c, r) && know[len(r.Know)] == run(255, 255, 255) && held[len(r.Held)].ID == 255 && offer[len(r.Session.Offer)] == run(255, 255, 255)
}

// spoil overwrites a replica's lists, and their spare room.
func spoil(r api.Replica) {
	for _, k := range [][]api.Run{r.Know[:cap(r.Know)], r.Session.Offer[:cap(r.Session.Offer)]} {
		for i := range k {
			k[i] = run(254, 254, 254)
		}
	}
	for i := range r.Held[:cap(r.Held)] {
		r.Held[:cap(r.Held)][i] = api.Entry{ID: 254}
	}
}

// Rule 3: what is handed in stays, its spare room too, and what is answered isn't bound to it.
func TestArgumentsStay(t *testing.T) {
	all := wrongs()
	for name, r := range rightReplicas() {
		all[name] = r
	}
	for name, r := range all {
		for _, c := range calls() {
			given := crowded(r)
			got, _ := c.do(given)
			replica.Get(given, 3)
			if !untouched(given, r) {
				t.Fatalf("%s: %s: changed: %+v", name, c.name, given)
			}
			spoil(got)
			if !untouched(given, r) {
				t.Fatalf("%s: %s: shared: %+v", name, c.name, given)
			}
		}
	}
}

// Rule 3: no two lists of an answer share memory, even if those handed in do.
func TestListsOfAnAnswerAreApart(t *testing.T) {
	r := some()
	r.Session.Offer = r.Know
	for _, c := range calls() {
		got, e := c.do(r)
		if e != nil {
			continue
		}
		offer := slices.Clone(got.Session.Offer)
		for i := range got.Know {
			got.Know[i] = run(254, 254, 254)
		}
		if !slices.Equal(got.Session.Offer, offer) {
			t.Errorf("%s: shared", c.name)
		}
	}
}

// Rule 4: what a call answers hangs on its arguments alone, also behind others and such as were refused.
func TestCallsAreAlone(t *testing.T) {
	for _, c := range calls() {
		first, e := c.do(some())
		for _, other := range calls() {
			other.do(with(some(), ofRep(9)))
			other.do(full())
			other.do(some())
		}
		if again, f := c.do(some()); !alike(first, again) || !errors.Is(f, e) && f != e {
			t.Errorf("%s: %+v %v, then %+v %v", c.name, first, e, again, f)
		}
	}
}

// Rule 5: lists far beyond every limit end, too.
func TestManyOfAll(t *testing.T) {
	many := with(bare(), func(r *api.Replica) {
		r.Know = slices.Repeat([]api.Run{run(0, 1, 1)}, 100000)
		r.Held = slices.Repeat([]api.Entry{ghost(4, ver(1, 1, 1), 1)}, 100000)
		r.Session.Offer = slices.Repeat([]api.Run{run(2, 10, 9)}, 100000)
	})
	if replica.Right(many) {
		t.Error("right")
	}
	for _, c := range calls() {
		refused(t, c.name, api.Wrong)(c.do(many))
	}
}
