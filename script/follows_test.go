package script_test

import (
	"bytes"
	"fmt"
	"slices"
	"testing"

	"tidings/api"
	"tidings/bag"
	"tidings/script"
)

// This file has P9.4, that what is written is the shortest, and the rules.

// someScripts does something with filters and acts of many kinds.
func someScripts(do func(filters []uint8, l []api.Act)) {
	for seed := range numbers(1500) {
		s := seed
		filters := s.filters()
		l := make([]api.Act, chosen(&s, 0, 0, 1, 2, 5, s.below(api.MaxActs+1)))
		for i := range l {
			l[i] = api.Act{Kind: 1 + s.below(11), A: uint8(s.below(256)), B: uint8(s.below(256)), N: uint32(s.below(1<<31))<<1 + uint32(s.below(2))}
		}
		do(filters, l)
	}
}

// someBytes does something with bytes of many kinds: all of up to two, all of up to 11 of few values, and many others.
func someBytes(do func(b []byte)) {
	for i := range 256 {
		do([]byte{byte(i)})
		for k := range 256 {
			do([]byte{byte(i), byte(k)})
		}
	}
	for size := 3; size <= 11; size++ {
		for pick := range 1 << (size - 1) {
			for first := range byte(4) {
				b := []byte{first}
				for bit := range size - 1 {
					b = append(b, []byte{0, 255}[pick>>bit&1])
				}
				do(b)
			}
		}
	}
	for seed := range numbers(1500) {
		s := seed
		b := s.bytes(1 + s.below(chosen(&s, 20, 60, 1+api.MaxReps+7*api.MaxActs)))
		do(b)
		do(bytes.ReplaceAll(b, []byte{b[0]}, []byte{255}))
	}
}

// P9.4: what is written is read as it was.
func TestWrittenIsRead(t *testing.T) {
	someScripts(func(filters []uint8, l []api.Act) {
		b, e := script.Write(filters, l)
		if e != nil {
			t.Fatalf("%v of %v and %v", e, filters, shown(l))
		}
		isRead(t, "written", b, filters, l)
	})
}

// P9.2: no bytes are shorter than those that are written, and read as the same.
func TestShortest(t *testing.T) {
	someBytes(func(b []byte) {
		filters, l, e := script.Read(b)
		if e != nil {
			t.Fatalf("%v of %v", e, shown(b))
		}
		w, e := script.Write(filters, l)
		if e != nil || len(w) > len(b) {
			t.Errorf("%v, %v, is longer than %v", shown(w), e, shown(b))
		}
		isRead(t, "written", w, filters, l)
	})
}

// P9.2: what is written and then cut, wherever, is read as something else.
func TestCutIsAnother(t *testing.T) {
	someScripts(func(filters []uint8, l []api.Act) {
		b, _ := script.Write(filters, l)
		for n := range b {
			if n > 20 && n < len(b)-8 {
				continue
			}
			f, acts, e := script.Read(b[:n])
			if e == nil && slices.Equal(f, filters) && slices.Equal(acts, l) {
				t.Errorf("%v of %v bytes are read as the same: %v", n, len(b), shown(b))
			}
		}
	})
}

// P9.4: any bytes run: as they are read, to a world that is right, with a mark for each act.
func TestAnyBytesRun(t *testing.T) {
	n := 0
	someBytes(func(b []byte) {
		if n++; len(b) > 20 && n%7 != 0 {
			return
		}
		filters, l, _ := meant(b)
		want, marks := done(t, filters, l...)
		isRun(t, fmt.Sprint(shown(b)), b, want, marks)
		if w, marks, e := script.Run(b); e != nil || !bag.Right(w) || len(w.Reps) != len(filters) || len(marks) != len(l) {
			t.Errorf("%v: %v, %v", shown(b), len(marks), e)
		}
	})
}

// P9.4: bytes of one value each, of each length up to the longest one.
func TestSameBytesRun(t *testing.T) {
	for _, of := range []byte{0, 1, 7, 8, 255} {
		for _, size := range []int{1, 2, 8, 9, 10, 16, 17, 100, 1000, 2801, 2808} {
			b := bytes.Repeat([]byte{of}, size)
			filters, l, _ := meant(b)
			want, marks := done(t, filters, l...)
			isRun(t, fmt.Sprint(size, " of ", of), b, want, marks)
		}
	}
}

// roomy gives a list with spare room, in which one stands.
func roomy[T any](l []T, spare T) []T {
	return append(append(make([]T, 0, len(l)+4096), l...), slices.Repeat([]T{spare}, 4096)...)[:len(l)]
}

// spread gives a list with its spare room.
func spread[T any](l []T) []T { return l[:cap(l)] }

// kept gives a list with spare room, and what tells whether it is as it was, the spare room too.
func kept[T comparable](l []T, spare T) ([]T, func() bool) {
	g := roomy(l, spare)
	all := spread(g)
	was := slices.Clone(all)
	return g, func() bool { return slices.Equal(all, was) }
}

// fill writes something all over a list, its spare room too, and gives what tells whether it stands there still.
func fill[T comparable](l []T, by T) func() bool {
	l = spread(l)
	for i := range l {
		l[i] = by
	}
	return func() bool { return !slices.ContainsFunc(l, func(x T) bool { return x != by }) }
}

// Rule 3: bytes that are read stay, their spare room too, and what is told shares no memory with them.
func TestReadStays(t *testing.T) {
	n := 0
	someBytes(func(b []byte) {
		if n++; n%5 != 0 {
			return
		}
		g, untouched := kept(b, 77)
		filters, l, _ := script.Read(g)
		f := fill(filters, 99)
		a := fill(l, api.Act{Kind: 99})
		if !untouched() || !f() || !a() {
			t.Fatalf("%v: %v, %v, %v", shown(b), untouched(), f(), a())
		}
		// The other way about: what becomes of the bytes behind the call alters nothing.
		filters, l, _ = script.Read(g)
		clear(spread(g))
		if want, acts, _ := meant(b); !slices.Equal(filters, want) || !slices.Equal(l, acts) {
			t.Fatalf("%v: %v, %v", shown(b), filters, shown(l))
		}
	})
}

// Rule 3: filters and acts that are written stay, their spare room too, also where something is wrong, and what is told shares no memory with them.
func TestWriteStays(t *testing.T) {
	stays := func(filters []uint8, l []api.Act) {
		f, filtersStay := kept(filters, 77)
		a, actsStay := kept(l, api.Act{Kind: 3, A: 77})
		b, _ := script.Write(f, a)
		want := slices.Clone(b)
		clear(spread(f))
		clear(spread(a))
		if !slices.Equal(b, want) {
			t.Fatalf("%v and %v: shared", filters, shown(l))
		}
		copy(spread(f), roomy(filters, 77)[:cap(f)])
		copy(spread(a), spread(roomy(l, api.Act{Kind: 3, A: 77})))
		b, _ = script.Write(f, a)
		fill(b, 99)
		if !filtersStay() || !actsStay() {
			t.Fatalf("%v and %v: changed", filters, shown(l))
		}
	}
	n := 0
	someScripts(func(filters []uint8, l []api.Act) {
		if n++; n%5 == 0 {
			stays(filters, l)
		}
	})
	stays(nil, list(put(0, 0, 0)))
	stays(make([]uint8, api.MaxReps+1), nil)
	stays(some(1, 255), list(put(0, 0, 0), api.Act{}))
	stays(some(1, 255), ofActs(api.MaxActs+1))
}

// Rule 3: bytes that are run stay, their spare room too, and what is told shares no memory with them, nor within itself.
func TestRunStays(t *testing.T) {
	for seed := range numbers(12) {
		s := seed
		filters := s.filters()
		b := scripted(filters, s.acts(len(filters), 150)...)
		g, untouched := kept(b, 77)
		w, marks, e := script.Run(g)
		if e != nil {
			t.Fatal(e)
		}
		checks := []func() bool{untouched, fill(marks, api.Mark{Value: 99, Err: 99}), fill(w.Made, api.Entry{ID: 99})}
		for i, r := range w.Reps {
			checks = append(checks, fill(r.Know, api.Run{Rep: uint8(90 + i)}), fill(r.Held, api.Entry{ID: uint8(90 + i)}), fill(r.Session.Offer, api.Run{Rep: uint8(190 + i)}))
		}
		for i, f := range w.Bag {
			checks = append(checks, fill(f, uint8(i)))
		}
		for i, stands := range checks {
			if !stands() {
				t.Errorf("seed %v: %v shares memory", seed, i)
			}
		}
		clear(spread(w.Reps))
		clear(spread(w.Bag))
		want, marks := done(t, filters, mustRead(t, g)...)
		isRun(t, "again", g, want, marks)
	}
}

// mustRead gives the acts of bytes.
func mustRead(t *testing.T, b []byte) []api.Act {
	t.Helper()
	_, l, e := script.Read(b)
	if e != nil {
		t.Fatal(e)
	}
	return l
}

// Rule 4: what a call answers hangs on its arguments alone, also behind ones that went wrong.
func TestCallsAreAlone(t *testing.T) {
	l := list(put(0, 3, 8), get(0, 3), get(1, 3))
	b := scripted(some(255, 1), l...)
	w, marks := done(t, some(255, 1), l...)
	for range 3 {
		isRead(t, "again", b, some(255, 1), l)
		isWritten(t, "again", some(255, 1), l, b)
		isRun(t, "again", b, w, marks)
		isNotRead(t, "between", nil, api.Nothing)
		isNotRead(t, "between", make([]byte, 5000), api.TooMany)
		isNotWritten(t, "between", nil, l, api.Wrong)
		isNotWritten(t, "between", some(1), ofActs(500), api.TooMany)
		isRun(t, "between", []byte{0}, api.World{Reps: []api.Replica{{Filter: 255}}}, nil)
	}
}

// Rule 5: bytes and lists far beyond every limit.
func TestManyOfAll(t *testing.T) {
	for _, of := range []byte{0, 255} {
		isNotRead(t, "many bytes", bytes.Repeat([]byte{of}, 1<<24), api.TooMany)
	}
	isNotWritten(t, "many filters", make([]uint8, 1<<24), nil, api.Wrong)
	isNotWritten(t, "many acts", some(1), slices.Repeat(list(spoil(0, most)), 1<<20), api.TooMany)
	isNotWritten(t, "many acts, without a Kind", some(1), make([]api.Act, 1<<20), api.Wrong)
}
