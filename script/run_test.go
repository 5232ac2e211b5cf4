package script_test

import (
	"fmt"
	"testing"

	"tidings/api"
	"tidings/note"
)

// This file has what bytes run as.

// The marks: fine of an act that went right, and told nothing; got of one that told a value; no of one that went wrong.
var fine = api.Mark{}

func got(value uint32) api.Mark { return api.Mark{Value: value} }
func no(code api.Code) api.Mark { return api.Mark{Err: code} }

// valued makes a Real entry, the first version of an item.
func valued(id, rep uint8, seq, value uint32) api.Entry {
	return api.Entry{ID: id, Ver: api.Ver{Rep: rep, Seq: seq, Stamp: 1}, Kind: api.Real, Class: uint8(value % 8), Value: value}
}

// scripted gives the bytes of filters, each of which is told, and of acts, by the document's words.
func scripted(filters []uint8, l ...api.Act) []byte {
	return joined([]byte{byte(len(filters) - 1)}, filters, bytesOf(l...))
}

// P9.3: of two, one writes, the other one fetches and reads.
func TestRunTwo(t *testing.T) {
	e := valued(3, 0, 1, 0x01020304)
	known := []api.Run{{Rep: 0, From: 1, To: 1}}
	want := api.World{
		Reps: []api.Replica{
			{Rep: 0, Filter: 255, Seq: 1, Know: known, Held: []api.Entry{e}},
			{Rep: 1, Filter: 16, Know: known, Held: []api.Entry{e}, Session: api.Session{Last: 1}},
		},
		Made: []api.Entry{e},
	}
	isRun(t, "two", []byte{
		1, 255, 16,
		2, 1, 3, 0, 0, 0, 0,
		0, 0, 3, 1, 2, 3, 4,
		4, 1, 0, 0, 0, 0, 0,
		7, 0, 0, 0, 0, 0, 0,
		7, 0, 0, 0, 0, 0, 0,
		2, 1, 3, 0, 0, 0, 0,
	}, want, []api.Mark{no(api.Nothing), fine, fine, fine, fine, got(0x01020304)})
}

// P9.3: of three, one writes, the second one fetches from it, and the third one, that has not all classes, from that.
func TestRunThree(t *testing.T) {
	l := list(
		put(0, 5, 9), put(0, 6, 8),
		begin(1, 0), deliver(0), deliver(0), get(1, 5), get(1, 6),
		begin(2, 1), deliver(0), deliver(0), get(2, 5), get(2, 6),
	)
	first, second := valued(5, 0, 1, 9), valued(6, 0, 2, 8)
	ghost := api.Entry{ID: 5, Ver: first.Ver, Kind: api.Ghost, Class: 1}
	known := []api.Run{{Rep: 0, From: 1, To: 2}}
	want := api.World{
		Reps: []api.Replica{
			{Rep: 0, Filter: 255, Seq: 2, Know: known, Held: []api.Entry{first, second}},
			{Rep: 1, Filter: 255, Know: known, Held: []api.Entry{first, second}, Session: api.Session{Last: 1}},
			{Rep: 2, Filter: 1, Know: known, Held: []api.Entry{ghost, second}, Session: api.Session{Last: 1}},
		},
		Made: []api.Entry{first, second},
	}
	marks := []api.Mark{fine, fine, fine, fine, fine, got(9), got(8), fine, fine, fine, no(api.Nothing), got(8)}
	isRun(t, "three", scripted(some(255, 255, 1), l...), want, marks)
}

// P9.3: each Kind goes right, and a frame is left in the Bag.
func TestRunEachKind(t *testing.T) {
	l := list(
		put(0, 3, 8), erase(0, 3), put(0, 4, 6), get(0, 4), filter(1, 127),
		begin(1, 0), again(1), double(0), spoil(1, 1<<16+9), drop(0),
		deliver(1), deliver(0), deliver(0), get(1, 4), begin(0, 1), quit(0),
	)
	marks := []api.Mark{
		fine, fine, fine, got(6), fine,
		fine, fine, fine, fine, fine,
		fine, no(api.BadSum), fine, got(6), fine, fine,
	}
	first, last := valued(3, 0, 1, 8), valued(4, 0, 3, 6)
	dead := api.Entry{ID: 3, Ver: api.Ver{Rep: 0, Seq: 2, Stamp: 2}, Kind: api.Dead}
	known := []api.Run{{Rep: 0, From: 1, To: 3}}
	pull, e := note.Write(api.Note{Kind: api.Pull, From: 0, To: 1, Num: 1, Filter: 255, Know: known})
	if e != nil {
		t.Fatal(e)
	}
	want := api.World{
		Reps: []api.Replica{
			{Rep: 0, Filter: 255, Seq: 3, Know: known, Held: []api.Entry{dead, last}, Session: api.Session{Last: 1}},
			{Rep: 1, Filter: 127, Epoch: 1, Know: known, Held: []api.Entry{dead, last}, Session: api.Session{Last: 1}},
		},
		Bag:  [][]byte{pull},
		Made: []api.Entry{first, dead, last},
	}
	isRun(t, "each Kind", scripted(some(255, 255), l...), want, marks)
}

// P9.3: acts that go wrong, in each way that they can: what comes behind them is done.
func TestRunWrongActs(t *testing.T) {
	var l []api.Act
	var marks []api.Mark
	comes := func(a api.Act, m api.Mark) { l, marks = append(l, a), append(marks, m) }
	comes(deliver(0), no(api.Nothing))
	comes(put(2, 0, 0), no(api.Nobody))
	comes(quit(255), no(api.Nobody))
	comes(put(0, 64, 0), no(api.Wrong))
	comes(put(1, 63, 7), no(api.Outside))
	comes(get(0, 0), no(api.Nothing))
	for id := range uint8(6) {
		comes(put(0, id, 100*uint32(id)), fine)
	}
	comes(begin(0, 0), no(api.Wrong))
	comes(begin(0, 7), fine)
	comes(deliver(0), no(api.Nobody))
	comes(spoil(0, most), no(api.Nothing))
	comes(begin(1, 0), fine)
	comes(spoil(0, 7<<16+1), fine)
	comes(deliver(0), no(api.BadFrame))
	comes(again(1), fine)
	comes(double(0), fine)
	comes(deliver(0), fine)
	comes(deliver(1), fine)
	comes(filter(0, 127), fine)
	comes(deliver(0), fine)
	comes(deliver(0), fine)
	comes(deliver(0), no(api.Stale))
	comes(deliver(0), no(api.Ended))
	comes(again(1), no(api.Nothing))
	comes(begin(1, 0), fine)
	for range api.MaxBag - 1 {
		comes(double(0), fine)
	}
	comes(double(0), no(api.TooMany))
	comes(begin(1, 1), no(api.TooMany))
	comes(get(0, 5), got(500))
	comes(get(1, 3), got(300))
	comes(get(1, 4), no(api.Nothing))
	for n := range len(l) + 1 {
		want, asDone := done(t, some(255, 17), l[:n]...)
		isRun(t, fmt.Sprint(n, " acts, done one by one"), scripted(some(255, 17), l[:n]...), want, asDone)
		isRun(t, fmt.Sprint(n, " acts"), scripted(some(255, 17), l[:n]...), want, marks[:n])
	}
}

// P9.3: no act: the world of the filters, that are told or missing.
func TestRunNoActs(t *testing.T) {
	for i := range 256 {
		for n := range 7 {
			filters := all(i%8 + 1)
			copy(filters, tail(n))
			b := joined([]byte{byte(i)}, filters)
			w, _ := done(t, filters)
			isRun(t, "told", b, w, nil)
			isRun(t, "told, and bytes behind", joined(b, tail(n)), w, nil)
			isRun(t, "some missing", b[:1+min(n, len(filters))], w, nil)
		}
	}
}

// P9.3: Read's errors.
func TestRunNotRead(t *testing.T) {
	isNotRead(t, "nil", nil, api.Nothing)
	isNotRead(t, "empty", []byte{}, api.Nothing)
	l := ofActs(api.MaxActs)
	for _, filters := range [][]uint8{some(1), all(8)} {
		b := scripted(filters, l...)
		want, marks := done(t, filters, l...)
		for n := range 7 {
			isRun(t, fmt.Sprint("MaxActs, and ", n, " bytes"), joined(b, tail(n)), want, marks)
			isNotRead(t, fmt.Sprint("one more, and ", n, " bytes"), joined(b, bytesOf(get(0, 0)), tail(n)), api.TooMany)
		}
	}
}

// P9.3: long scripts are run as the same acts are done one by one; each thing that can come of an act of a script does.
func TestRunAgainstActs(t *testing.T) {
	count := map[api.Code]int{}
	for seed := range numbers(60) {
		s := seed
		filters := s.filters()
		l := s.acts(len(filters), chosen(&s, 30, 100, api.MaxActs))
		want, marks := done(t, filters, l...)
		isRun(t, fmt.Sprint("seed ", seed), joined(scripted(filters, l...), tail(s.below(7))), want, marks)
		for _, m := range marks {
			count[m.Err]++
		}
	}
	for _, code := range []api.Code{0, api.BadFrame, api.BadSum, api.Stale, api.TooMany, api.Outside, api.Nobody, api.Nothing, api.Wrong, api.Ended} {
		if count[code] == 0 {
			t.Errorf("%v never comes: %v", code, count)
		}
	}
}
