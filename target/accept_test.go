package target_test

import (
	"slices"
	"strconv"
	"testing"

	"tidings/api"
	"tidings/note"
	"tidings/target"
)

// P7.2: a first Batch that isn't the last one, told in full.
func TestTheFirstBatch(t *testing.T) {
	r := bare(0b0011, runs(run(2, 1, 9)), valued(4, ver(2, 9, 1), 1))
	b := api.Note{
		Kind: api.Batch, From: 6, To: 2, Num: 1, Epoch: 8, Next: 10,
		Entries: entries(valued(1, ver(5, 3, 2), 9), valued(4, ver(6, 1, 2), 10), ghost(8, ver(5, 7, 1), 1), dead(9, ver(1, most, 4))),
		Offer:   runs(run(5, 1, 9)),
	}
	out, pull, more, e := target.Accept(r, b)
	want := api.Replica{
		Rep: 2, Filter: 0b0011, Seq: 9,
		Know: runs(run(1, most, most), run(2, 1, 9), run(5, 3, 3), run(6, 1, 1)),
		Held: entries(valued(1, ver(5, 3, 2), 9), ghost(4, ver(6, 1, 2), 2), ghost(8, ver(5, 7, 1), 1), dead(9, ver(1, most, 4))),
		Session: api.Session{
			On: true, Num: 1, From: 6, Cursor: 10, Epoch: 8, Offer: runs(run(5, 1, 9)), Last: 1,
		},
	}
	if e != nil || !more || !alike(out, want) {
		t.Errorf("%+v %v %v", out, more, e)
	}
	if !alikeNotes(pull, api.Note{Kind: api.Pull, From: 2, To: 6, Num: 1, Cursor: 10, Filter: 0b0011, Know: want.Know}) {
		t.Errorf("%+v", pull)
	}
}

// P7.2: a later Batch that is the last one, told in full.
func TestTheLastBatch(t *testing.T) {
	r := waiting()
	b := api.Note{
		Kind: api.Batch, From: 5, To: 3, Num: 4, Cursor: 12, Epoch: 6, Next: 64, Done: true,
		Entries: entries(valued(13, ver(6, 8, 1), 8), valued(63, ver(6, 9, 9), 9)),
	}
	out, pull, more, e := target.Accept(r, b)
	want := altered(r, func(r *api.Replica) {
		r.Know = runs(run(0, 1, 4), run(3, 1, 9), run(6, 5, 5), run(6, 8, 9), run(7, 2, most))
		r.Held = slices.Insert(r.Held, 4, valued(13, ver(6, 8, 1), 8))
		r.Session = api.Session{Last: 6}
	})
	// 63 is held of a greater version.
	if e != nil || more || !alike(out, want) || !alikeNotes(pull, api.Note{}) {
		t.Errorf("%+v %+v %v %v", out, pull, more, e)
	}
}

// P7.2: each kind of each class, in each Filter and outside: what is held, and whether its version is known; also where it was known.
func TestHowEachIsTaken(t *testing.T) {
	v := ver(1, 6, 2)
	for class := range uint8(8) {
		value := uint32(class) + 80
		for filter := range 256 {
			in := filter>>class&1 == 1
			is := func(name string, e, held api.Entry, known bool) {
				t.Helper()
				for _, k := range [][]api.Run{nil, runs(run(1, 6, 6))} {
					r := bare(uint8(filter), k)
					want := quitted(bare(uint8(filter), k, held))
					if known {
						want.Know = runs(run(1, 6, 6))
					}
					accepts(t, name+", class "+strconv.Itoa(int(class))+", filter "+strconv.Itoa(filter), r, reply(r, e), want)
				}
			}
			is("Dead", dead(4, v), dead(4, v), true)
			is("Ghost", ghost(4, v, class), ghost(4, v, class), !in)
			if in {
				is("Real, in", valued(4, v, value), valued(4, v, value), true)
			} else {
				is("Real, outside", valued(4, v, value), ghost(4, v, class), true)
			}
		}
	}
}

// order is a version, and how it is to the one that is held.
type order struct {
	v    api.Ver
	sign int
}

// orders is versions less than, alike to and greater than that of the replica 4, Seq 5, Stamp 6.
func orders() []order {
	return []order{
		{ver(4, 5, 5), -1}, {ver(7, 9, 5), -1}, {ver(3, 9, 6), -1}, {ver(4, 4, 6), -1}, {ver(2, 9, 1), -1},
		{ver(4, 5, 6), 0},
		{ver(4, 5, 7), 1}, {ver(0, 1, 7), 1}, {ver(5, 1, 6), 1}, {ver(4, 6, 6), 1}, {ver(2, 1, 7), 1}, {ver(7, most, most), 1},
	}
}

// P7.2, P7.3: an Entry that is less than what is held, alike, and greater, of each kind held and told, in the Filter and outside.
func TestLessAlikeAndGreater(t *testing.T) {
	v := ver(4, 5, 6)
	of := func(v api.Ver) []api.Entry {
		return entries(valued(9, v, 8), valued(9, v, 1), ghost(9, v, 0), ghost(9, v, 1), dead(9, v))
	}
	for _, held := range of(v) {
		if held == valued(9, v, 1) {
			continue // outside the Filter it isn't held
		}
		for _, k := range [][]api.Run{nil, runs(run(4, 5, 5))} {
			r := bare(1, k, held)
			if held.Kind != api.Ghost && k == nil {
				continue // what isn't known isn't held but as a Ghost
			}
			for _, o := range orders() {
				for _, e := range of(o.v) {
					taken := e
					if e == valued(9, o.v, 1) {
						taken = ghost(9, o.v, 1)
					}
					want := quitted(r)
					if o.sign > 0 || o.sign == 0 && held.Kind == api.Ghost && taken.Kind != api.Ghost {
						want.Held = entries(taken)
					}
					if taken != ghost(9, o.v, 0) {
						want.Know = joined(k, runs(run(o.v.Rep, o.v.Seq, o.v.Seq)))
					}
					accepts(t, "taken", r, reply(r, e), want)
				}
			}
		}
	}
}

// P7.2: the Epoch and the Offer of a first Batch are the Session's; those of a later one aren't.
func TestEpochAndOffer(t *testing.T) {
	four := entries(dead(13, ver(0, 11, 1)), dead(14, ver(0, 12, 1)), dead(15, ver(0, 13, 1)), dead(62, ver(0, 14, 1)))
	taken := func(r *api.Replica) {
		r.Know = slices.Insert(r.Know, 1, run(0, 11, 14))
		r.Held = slices.Insert(slices.Insert(r.Held, 4, four[:3]...), 10, four[3])
		r.Session.Cursor = 63
	}
	for _, epoch := range []uint32{0, 1, 6, 7, most} {
		for name, k := range map[string][]api.Run{"nothing": nil, "some": runs(run(3, 1, 9), run(4, 8, 9)), "MaxRuns": singles(5, api.MaxRuns)} {
			r := starting()
			b := offering(part(r, four...), k...)
			b.Epoch = epoch
			want := altered(r, taken)
			want.Session.Epoch, want.Session.Offer = epoch, k
			accepts(t, name, r, b, want)
			// The later one has none of it, and keeps it.
			r = at(want, 12)
			accepts(t, name+", gone on", r, part(r, four...), want)
		}
	}
	accepts(t, "gone on", waiting(), part(waiting(), four...), altered(waiting(), taken))
}

// P7.2: an Epoch that is the Session's, and one that isn't, at a Cursor of 0 and at all others.
func TestEpochs(t *testing.T) {
	for _, epoch := range []uint32{0, 1, 5, 6, 7, most} {
		of := func(b *api.Note) { b.Epoch = epoch }
		accepts(t, "at 0", starting(), with(reply(starting()), of), idle())
		for cursor := uint8(1); cursor < api.MaxItems; cursor++ {
			r := at(waiting(), cursor)
			name := "at " + strconv.Itoa(int(cursor))
			if epoch != 6 {
				ended(t, name, r, with(reply(r), of))
				ended(t, name+", with an Entry", r, with(reply(r, valued(63, ver(7, most-1, most), 8)), of))
				continue
			}
			want := idle()
			want.Know = runs(run(0, 1, 4), run(3, 1, 9), run(6, 5, 5), run(7, 2, most))
			accepts(t, name, r, with(reply(r), of), want)
		}
	}
	// Where the source never changed its filter, the Epoch is 0.
	zero := altered(waiting(), func(r *api.Replica) { r.Session.Epoch = 0 })
	ended(t, "0 and 1", zero, with(reply(zero), func(b *api.Note) { b.Epoch = 1 }))
	refused(t, "behind the end", idle(), reply(zero), api.Stale)
}

// P7.2: Ended comes ahead of TooMany, and behind all else; of a Batch that isn't Done, too.
func TestEndedAndOthers(t *testing.T) {
	another := func(b *api.Note) { b.Epoch++ }
	r := altered(at(crowded(api.MaxRuns), 12), func(r *api.Replica) { r.Session.Epoch, r.Session.Offer = 6, runs(run(5, 1, 1)) })
	for name, b := range map[string]api.Note{
		"Entries": reply(r, dead(13, ver(6, 1, 1))),
		"Offer":   reply(r),
		"part":    part(r, dead(13, ver(6, 1, 1)), dead(14, ver(6, 3, 1)), dead(15, ver(6, 5, 1)), dead(16, ver(6, 7, 1))),
	} {
		refused(t, name+", too many", r, b, api.TooMany)
		ended(t, name, r, with(b, another))
		refused(t, name+", another Num", r, with(b, func(b *api.Note) { b.Epoch, b.Num = 7, 2 }), api.Stale)
		refused(t, name+", no Num", r, with(b, func(b *api.Note) { b.Epoch, b.Num = 7, 0 }), api.BadNote)
		refused(t, name+", not right", altered(r, func(r *api.Replica) { r.Session.Num = 2 }), with(b, another), api.Wrong)
	}
	refused(t, "own above Seq", waiting(), with(reply(waiting(), dead(13, ver(3, 10, 1))), another), api.Wrong)
	refused(t, "two of one number", waiting(), with(reply(waiting(), dead(13, ver(1, 1, 1)), dead(14, ver(1, 1, 2))), another), api.Wrong)
	refused(t, "one that is held", waiting(), with(reply(waiting(), dead(13, ver(0, 4, 2))), another), api.Wrong)
	ended(t, "own at Seq", waiting(), with(reply(waiting(), dead(20, ver(3, 9, 4))), another))
}

// P7.2: Done and not Done: what is known, the Session, the Cursor, the Pull, and more.
func TestDoneAndNot(t *testing.T) {
	offer := runs(run(1, 5, 9), run(2, 1, 7))
	four := entries(dead(3, ver(1, 4, 1)), dead(4, ver(1, 10, 1)), dead(8, ver(6, 1, 1)), dead(30, ver(6, 2, 1)))
	r := bare(255, runs(run(0, 1, 2)))
	part1 := offering(part(r, four...), offer...)
	held := r
	held.Know, held.Held = runs(run(0, 1, 2), run(1, 4, 4), run(1, 10, 10), run(6, 1, 2)), four
	held.Session.Cursor, held.Session.Offer = 31, offer
	accepts(t, "not Done", r, part1, held)
	all := quitted(held)
	all.Know = runs(run(0, 1, 2), run(1, 4, 10), run(2, 1, 7), run(6, 1, 2))
	accepts(t, "Done", r, with(part1, func(b *api.Note) { b.Done = true }), all)
	accepts(t, "not Done, then Done", held, reply(held), all)
	last := all
	last.Know, last.Held = append(slices.Clone(all.Know), run(7, 1, 1)), append(slices.Clone(all.Held), dead(63, ver(7, 1, 1)))
	accepts(t, "Done with the item 63", held, reply(held, dead(63, ver(7, 1, 1))), last)
	accepts(t, "Done with nothing", bare(0, nil), reply(bare(0, nil)), quitted(bare(0, nil)))
	// What is offered may be what isn't held, or no more than is known.
	accepts(t, "all offered", r, offering(reply(r), run(0, 1, most), run(2, 1, 9), run(7, most, most)), quitted(bare(255, runs(run(0, 1, most), run(2, 1, 9), run(7, most, most)))))
	accepts(t, "what is known offered", r, offering(reply(r), run(0, 2, 2)), quitted(r))
}

// P7.2: a Ghost in the Filter isn't known, but by the Offer, where that has it; nor is its version forgotten.
func TestGhostsAndOffer(t *testing.T) {
	r := bare(255, nil)
	g := ghost(4, ver(1, 5, 1), 3)
	accepts(t, "not offered", r, offering(reply(r, g), run(1, 1, 4), run(1, 6, 6)), quitted(bare(255, runs(run(1, 1, 4), run(1, 6, 6)), g)))
	accepts(t, "offered", r, offering(reply(r, g), run(1, 1, 6)), quitted(bare(255, runs(run(1, 1, 6)), g)))
	r = bare(255, runs(run(1, 5, 5)))
	accepts(t, "known", r, reply(r, g), quitted(bare(255, runs(run(1, 5, 5)), g)))
}

// P7.2: a version of the replica's own Rep at Seq, and one above, in Entries and in Offer, at each place.
func TestOwnVersions(t *testing.T) {
	for _, rep := range []uint8{0, 2, 7} {
		for _, seq := range []uint32{0, 1, 9, most - 1, most} {
			r := bare(255, nil)
			r.Rep, r.Seq = rep, seq
			other := dead(1, ver((rep+1)%8, most, most))
			if seq > 0 {
				for _, e := range entries(valued(4, ver(rep, seq, 1), 5), ghost(4, ver(rep, seq, 1), 5), dead(4, ver(rep, seq, 1))) {
					want := quitted(r)
					want.Held = entries(other, e)
					want.Know = joined(runs(run(other.Ver.Rep, most, most)), runs(run(rep, seq, seq)))
					if e.Kind == api.Ghost {
						want.Know = runs(run(other.Ver.Rep, most, most))
					}
					accepts(t, "Entry at Seq", r, reply(r, other, e), want)
				}
				want := quitted(r)
				want.Know = runs(run(rep, 1, seq))
				accepts(t, "Offer to Seq", r, offering(reply(r), run(rep, 1, seq)), want)
			}
			if seq == most {
				continue // nothing is above
			}
			for _, above := range []uint32{seq + 1, most} {
				v := ver(rep, above, 1)
				refused(t, "Real above Seq", r, reply(r, valued(4, v, 5)), api.Wrong)
				refused(t, "Ghost above Seq", r, reply(r, ghost(4, v, 5)), api.Wrong)
				refused(t, "Dead above Seq", r, reply(r, dead(4, v)), api.Wrong)
				refused(t, "the second above Seq", r, reply(r, other, dead(4, v)), api.Wrong)
				refused(t, "the first above Seq", r, reply(r, dead(0, v), other), api.Wrong)
				refused(t, "Offer above Seq", r, offering(reply(r), run(rep, above, above)), api.Wrong)
				refused(t, "Offer to above Seq", r, offering(reply(r, other), joined(runs(run(rep, 1, above)), runs(run(3, 1, most), run(5, 8, 9)))...), api.Wrong)
				refused(t, "both above Seq", r, offering(reply(r, dead(4, v)), run(rep, 1, above)), api.Wrong)
			}
		}
	}
}

// P7.2: what isn't told by a Batch isn't refused: others' versions above the replica's own Seq.
func TestOthersVersions(t *testing.T) {
	r := bare(255, nil)
	for rep := range uint8(api.MaxReps) {
		if rep == r.Rep {
			continue
		}
		want := quitted(bare(255, runs(run(rep, 10, most)), dead(4, ver(rep, most, 1))))
		accepts(t, "others'", r, offering(reply(r, dead(4, ver(rep, most, 1))), run(rep, 10, most)), want)
	}
}

// P7.2: an Entry of the Rep and the Seq of another Entry, whatever else they are.
func TestTwoOfOneNumber(t *testing.T) {
	between := entries(dead(2, ver(6, 1, 1)), ghost(3, ver(6, 2, 1), 1))
	r := bare(1, nil)
	of := func(id uint8, stamp uint32) []api.Entry {
		v := ver(4, 5, stamp)
		return entries(valued(id, v, 8), valued(id, v, 9), ghost(id, v, 0), ghost(id, v, 1), dead(id, v))
	}
	for _, stamp := range []uint32{1, 6, 7, most} {
		for _, first := range of(1, 6) {
			for _, second := range of(4, stamp) {
				refused(t, "neighbours", r, reply(r, first, second), api.Wrong)
				refused(t, "first and last", r, reply(r, first, between[0], between[1], second), api.Wrong)
				refused(t, "the last two", r, reply(r, between[0], moved(first, 3), second), api.Wrong)
			}
		}
	}
	want := quitted(bare(1, runs(run(4, 5, 6), run(5, 5, 5)), dead(1, ver(4, 5, 1)), dead(4, ver(4, 6, 1)), dead(5, ver(5, 5, 1))))
	accepts(t, "of one Rep, of one Seq", r, reply(r, want.Held...), want)
}

// P7.2: an Entry of the Rep and the Seq of what is held of the same item, and of another one, also where that is replaced, or the Entry would alter nothing.
func TestOneNumberThatIsHeld(t *testing.T) {
	v := ver(4, 5, 6)
	for _, held := range entries(valued(9, v, 8), ghost(9, v, 0), ghost(9, v, 1), dead(9, v)) {
		r := bare(1, runs(run(4, 5, 5)), dead(1, ver(4, 7, 9)), held, dead(20, ver(4, 8, 9)))
		r.Know = append(slices.Clone(r.Know), run(4, 7, 8))
		for _, stamp := range []uint32{1, 5, 6, 7, most} {
			same := dead(9, ver(4, 5, stamp))
			want := quitted(r)
			if stamp > 6 || stamp == 6 && held.Kind == api.Ghost {
				want = altered(want, func(r *api.Replica) { r.Held[1] = same })
			}
			accepts(t, "of the same item", r, reply(r, same), want)
			for _, id := range []uint8{0, 1, 8, 10, 20, 63} {
				of := ver(4, 5, stamp)
				for _, e := range entries(valued(id, of, 8), valued(id, of, 9), ghost(id, of, 0), ghost(id, of, 1), dead(id, of)) {
					refused(t, "of another item", r, reply(r, e), api.Wrong)
				}
			}
			refused(t, "of what is replaced ahead", r, reply(r, dead(9, ver(6, 1, most)), dead(30, ver(4, 5, stamp))), api.Wrong)
			refused(t, "of what is replaced behind", r, reply(r, dead(3, ver(4, 5, stamp)), dead(9, ver(6, 1, most))), api.Wrong)
		}
	}
}

// crowded is a right replica that knows count runs: of the replica 4 the even numbers from 2 on.
func crowded(count int) api.Replica { return bare(1, singles(4, count)) }

// P7.2: MaxRuns known, and one more needed, Entry by Entry, also only in between.
func TestMaxRunsByEntries(t *testing.T) {
	r := crowded(api.MaxRuns)
	more, joins, known := dead(4, ver(5, 1, 1)), dead(3, ver(4, 3, 1)), dead(2, ver(4, 2, 1))
	behind := dead(5, ver(4, 5, 1))
	for name, b := range map[string]api.Note{
		"Real":                     reply(r, valued(4, ver(5, 1, 1), 8)),
		"Real outside":             reply(r, valued(4, ver(5, 1, 1), 9)),
		"Dead":                     reply(r, more),
		"Ghost outside":            reply(r, ghost(4, ver(5, 1, 1), 1)),
		"behind a known one":       reply(r, known, more),
		"in between":               reply(r, more, behind),
		"in between, two":          reply(r, joins, more, dead(6, ver(5, 3, 1)), dead(7, ver(4, 5, 1))),
		"not Done":                 part(r, joins, more, dead(6, ver(5, 3, 1)), dead(7, ver(4, 5, 1))),
		"in between, of the Offer": offering(reply(r, more), run(4, 2, 128)),
	} {
		refused(t, name, r, b, api.TooMany)
	}
	is := func(name string, k []api.Run, l ...api.Entry) {
		t.Helper()
		want := quitted(r)
		want.Know, want.Held = k, l
		accepts(t, name, r, reply(r, l...), want)
	}
	fewer := joined(r.Know, runs(run(4, 3, 3)))
	is("known", r.Know, known)
	is("touching", joined(r.Know, runs(run(4, 1, 1))), dead(2, ver(4, 1, 1)))
	is("joining", fewer, joins)
	is("joining first", joined(fewer, runs(run(5, 1, 1))), joins, more)
	is("a Ghost in the Filter", r.Know, ghost(4, ver(5, 1, 1), 0), ghost(6, ver(6, 1, 1), 0))
	less := crowded(api.MaxRuns - 1)
	want := quitted(less)
	want.Know, want.Held = append(slices.Clone(less.Know), run(5, 1, 1)), entries(more)
	accepts(t, "up to MaxRuns", less, reply(less, more), want)
	refused(t, "two more", less, reply(less, more, dead(5, ver(5, 3, 1))), api.TooMany)
}

// P7.2: MaxRuns known, and one more needed, by the Offer at the end: all of it at once, and behind the Entries.
func TestMaxRunsByTheOffer(t *testing.T) {
	r := crowded(api.MaxRuns)
	three := entries(dead(3, ver(4, 3, 1)), ghost(4, ver(6, 1, 1), 0), ghost(5, ver(6, 2, 1), 0))
	four := append(slices.Clone(three), ghost(6, ver(6, 3, 1), 0))
	later := altered(at(r, 3), func(r *api.Replica) { r.Session.Offer = runs(run(5, 1, 1), run(5, 3, 3)) })
	refused(t, "one more", r, offering(reply(r), run(5, 1, 1)), api.TooMany)
	refused(t, "one more, joining one", r, offering(reply(r), run(4, 3, 3), run(5, 1, 1), run(5, 3, 3)), api.TooMany)
	refused(t, "MaxRuns more", r, offering(reply(r), singles(5, api.MaxRuns)...), api.TooMany)
	refused(t, "one more at a later Cursor", later, reply(later), api.TooMany)
	refused(t, "one more behind one that joins", later, reply(later, three...), api.TooMany)
	is := func(name string, r api.Replica, k []api.Run, l []api.Entry) {
		t.Helper()
		b := reply(r, l...)
		want := quitted(r)
		want.Know, want.Held = joined(joined(r.Know, k), versions(l)), l
		if r.Session.Cursor == 0 {
			b.Offer = k
		}
		accepts(t, name, r, b, want)
	}
	is("all that is known", r, r.Know, nil)
	is("all", r, runs(run(0, 1, most), run(4, 1, most), run(7, 1, most)), nil)
	is("one more, joining one at once", r, runs(run(4, 3, 3), run(5, 1, 1)), nil)
	is("one more, joining one behind", r, runs(run(0, 1, 1), run(4, 3, 3)), nil)
	is("one more behind an Entry that joins", r, runs(run(5, 1, 1)), three)
	later.Session.Offer = runs(run(5, 1, 1))
	is("at a later Cursor", later, later.Session.Offer, three)
	// What isn't all yet isn't known yet.
	want := altered(r, func(r *api.Replica) {
		r.Know, r.Held = joined(r.Know, runs(run(4, 3, 3))), four
		r.Session.Cursor, r.Session.Offer = 7, runs(run(5, 1, 1), run(5, 3, 3))
	})
	accepts(t, "not Done", r, offering(part(r, four...), run(5, 1, 1), run(5, 3, 3)), want)
	refused(t, "then Done", want, reply(want), api.TooMany)
}

// versions gives the versions of those entries that aren't Ghosts, as runs.
func versions(l []api.Entry) []api.Run {
	var k []api.Run
	for _, e := range l {
		if e.Kind != api.Ghost {
			k = joined(k, runs(run(e.Ver.Rep, e.Ver.Seq, e.Ver.Seq)))
		}
	}
	return k
}

// P7.2: a Batch whose To, From, Num or Cursor is just one of them another, and the same Batch twice.
func TestWhatIsWaitedFor(t *testing.T) {
	four := entries(dead(13, ver(0, 11, 1)), dead(14, ver(0, 12, 1)), dead(15, ver(0, 13, 1)), dead(62, ver(0, 14, 1)))
	for name, r := range map[string]api.Replica{"starting": starting(), "waiting": waiting(), "Num 1": altered(waiting(), func(r *api.Replica) { r.Session.Num = 1 })} {
		for _, b := range []api.Note{reply(r), reply(r, four[:2]...), reply(r, four...), part(r, four...)} {
			for rep := range uint8(api.MaxReps) {
				if rep != b.To && rep != b.From {
					refused(t, name+", another To", r, with(b, func(b *api.Note) { b.To = rep }), api.Stale)
					refused(t, name+", another From", r, with(b, func(b *api.Note) { b.From = rep }), api.Stale)
				}
			}
			for _, num := range []uint32{1, 2, 3, 4, 5, 6, 7, most} {
				if num != b.Num {
					refused(t, name+", another Num", r, with(b, func(b *api.Note) { b.Num = num }), api.Stale)
				}
			}
			for cursor := range uint8(13) {
				if cursor != b.Cursor {
					other := with(b, func(b *api.Note) { b.Cursor, b.Next = cursor, max(b.Next, cursor) })
					if len(b.Entries) == 0 {
						other.Next = cursor
					}
					refused(t, name+", another Cursor", r, other, api.Stale)
				}
			}
			refused(t, name+", turned about", r, with(b, func(b *api.Note) { b.From, b.To = b.To, b.From }), api.Stale)
			refused(t, name+", not On", quitted(r), b, api.Stale)
			out, _, more, e := target.Accept(r, b)
			if e != nil || more == b.Done {
				t.Errorf("%s: %v %v", name, more, e)
			}
			refused(t, name+", the same twice", out, b, api.Stale)
		}
	}
}

// wrongNotes is notes to a replica that waits for its Batch, that aren't right.
func wrongNotes(r api.Replica) map[string]api.Note {
	of := func(alter func(*api.Note)) api.Note {
		return with(reply(r, valued(62, ver(6, 4, 1), 7), dead(63, ver(6, 5, 1))), alter)
	}
	return map[string]api.Note{
		"zero":               {},
		"Kind 0":             of(func(b *api.Note) { b.Kind = 0 }),
		"Kind 3":             of(func(b *api.Note) { b.Kind = 3 }),
		"Kind 258":           of(func(b *api.Note) { b.Kind = 258 }),
		"Kind -2":            of(func(b *api.Note) { b.Kind = -2 }),
		"From 8":             of(func(b *api.Note) { b.From = 8 }),
		"To 255":             of(func(b *api.Note) { b.To = 255 }),
		"From To":            of(func(b *api.Note) { b.From = b.To }),
		"Num 0":              of(func(b *api.Note) { b.Num = 0 }),
		"Cursor 64":          of(func(b *api.Note) { b.Cursor = 64 }),
		"Cursor 63":          of(func(b *api.Note) { b.Cursor = 63 }),
		"a Filter":           of(func(b *api.Note) { b.Filter = 1 }),
		"a Know":             of(func(b *api.Note) { b.Know = runs(run(1, 1, 1)) }),
		"Entries that fall":  of(func(b *api.Note) { slices.Reverse(b.Entries) }),
		"Entries alike":      of(func(b *api.Note) { b.Entries[0] = b.Entries[1] }),
		"an Entry of Seq 0":  of(func(b *api.Note) { b.Entries[0].Ver.Seq = 0 }),
		"an Entry of Rep 8":  of(func(b *api.Note) { b.Entries[0].Ver.Rep = 8 }),
		"an Entry of Kind 4": of(func(b *api.Note) { b.Entries[0].Kind = 4 }),
		"another Class":      of(func(b *api.Note) { b.Entries[0].Class = 6 }),
		"five Entries": reply(r, dead(50, ver(6, 1, 1)), dead(51, ver(6, 2, 1)), dead(52, ver(6, 3, 1)), dead(53, ver(6, 4, 1)),
			dead(54, ver(6, 5, 1))),
		"another Next":         of(func(b *api.Note) { b.Next = 63 }),
		"not Done":             of(func(b *api.Note) { b.Done = false }),
		"nothing, not Done":    part(r),
		"an Offer of Rep 8":    of(func(b *api.Note) { b.Offer = runs(run(8, 1, 1)) }),
		"an Offer that falls":  of(func(b *api.Note) { b.Offer = runs(run(1, 1, 1), run(0, 1, 1)) }),
		"an Offer of 65 runs":  of(func(b *api.Note) { b.Offer = singles(0, api.MaxRuns+1) }),
		"Offer and Cursor":     with(reply(at(r, 5)), func(b *api.Note) { b.Offer = runs(run(1, 1, 1)) }),
		"a Pull, Num 0":        {Kind: api.Pull, From: r.Session.From, To: r.Rep},
		"a Pull of Entries":    of(func(b *api.Note) { b.Kind = api.Pull }),
		"own above Seq, Num 0": with(reply(r, dead(62, ver(r.Rep, most, 1))), func(b *api.Note) { b.Num = 0 }),
	}
}

// staleNotes is right notes that a replica doesn't wait for, of which one or more would be wrong in other ways.
func staleNotes(r api.Replica) map[string]api.Note {
	above, twice := reply(r, dead(62, ver(r.Rep, r.Seq+1, 1))), reply(r, dead(62, ver(6, 4, 1)), dead(63, ver(6, 4, 2)))
	num := func(b *api.Note) { b.Num++ }
	return map[string]api.Note{
		"a Pull":                    {Kind: api.Pull, From: r.Session.From, To: r.Rep, Num: r.Session.Num, Cursor: r.Session.Cursor, Filter: 255, Know: runs(run(0, 1, 1))},
		"its own Pull":              pullOf(r),
		"its own Pull back":         with(pullOf(r), func(b *api.Note) { b.From, b.To = b.To, b.From }),
		"own above Seq, Num":        with(above, num),
		"two of one number, Num":    with(twice, num),
		"another Epoch, Num":        with(reply(r), func(b *api.Note) { b.Epoch, b.Num = b.Epoch+1, b.Num+1 }),
		"all of it, Num":            with(twice, func(b *api.Note) { b.Entries[0].Ver.Rep, b.Epoch, b.Num = r.Rep, b.Epoch+1, b.Num+1 }),
		"own above Seq, to another": with(above, func(b *api.Note) { b.To = (b.From + 1) % 8 }),
	}
}

// P7.2: each refusal, and of several the one that is named first.
func TestRefused(t *testing.T) {
	for name, r := range wrongReplicas() {
		refused(t, name, r, reply(r), api.Wrong)
		refused(t, name+", an Entry", r, reply(r, dead(63, ver(6, 4, 1))), api.Wrong)
		for _, l := range []map[string]api.Note{wrongNotes(waiting()), wrongNotes(r), staleNotes(waiting())} {
			for more, b := range l {
				refused(t, name+", "+more, r, b, api.Wrong)
			}
		}
	}
	for name, r := range map[string]api.Replica{"waiting": waiting(), "starting": starting(), "bare": bare(255, nil), "crowded": crowded(api.MaxRuns)} {
		for more, b := range wrongNotes(r) {
			refused(t, name+", "+more, r, b, api.BadNote)
			refused(t, name+", not On, "+more, quitted(r), b, api.BadNote)
		}
		for more, b := range staleNotes(r) {
			if !note.Right(b) {
				t.Fatalf("%s: %+v", more, b)
			}
			refused(t, name+", "+more, r, b, api.Stale)
			refused(t, name+", not On, "+more, quitted(r), b, api.Stale)
		}
	}
	// What is Wrong comes ahead of too many runs, wherever it stands.
	r := crowded(api.MaxRuns)
	more := dead(4, ver(5, 1, 1))
	refused(t, "own above Seq, behind", r, reply(r, more, dead(5, ver(2, 10, 1))), api.Wrong)
	refused(t, "own offered above Seq", r, offering(reply(r, more), run(2, 10, 10)), api.Wrong)
	refused(t, "two of one number, behind", r, reply(r, more, dead(5, ver(6, 1, 1)), dead(6, ver(6, 1, 1))), api.Wrong)
}
