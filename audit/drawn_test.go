package audit_test

import (
	"fmt"
	"slices"
	"testing"

	"tidings/api"
	"tidings/audit"
	"tidings/bag"
	"tidings/script"
)

// This file has what is drawn: scripts of many kinds, and worlds that came of no script.

// draw is how scripts are drawn.
type draw struct {
	numbers
	items  int  // how many items are written
	fetch  int  // out of 100: how often a fetch is drawn, not an act
	change int  // out of 100: how often a filter is changed
	fills  bool // whether frames are doubled so often that the Bag comes to be full
}

// drawnFilter gives a filter, of many classes, of few, or of any.
func (d *draw) drawnFilter() uint8 {
	return chosen[uint8](&d.numbers, 255, 255, 127, 15, 240, 85, 1, uint8(d.below(256)))
}

// act gives an act that often can be done in a world.
func (d *draw) act(w api.World) api.Act {
	a := api.Act{A: uint8(d.below(len(w.Reps))), N: uint32(d.below(1<<31))<<1 + uint32(d.below(2))}
	a.Kind = chosen(&d.numbers, 1, 1, 1, 1, 1, 2, 5, 5, 6, 7, 8, 8, 8, 8, 8, 8, 8, 8, 8, 8, 9, 10, 10, 11)
	if d.below(100) < d.change {
		a.Kind = api.DoFilter
	}
	switch {
	case a.Kind >= api.DoDeliver:
		a.B = uint8(d.below(len(w.Bag) + 1))
	case a.Kind == api.DoFilter:
		a.B = d.drawnFilter()
	case a.Kind == api.DoBegin:
		a.B = uint8(d.below(len(w.Reps)))
	default:
		a.B = uint8(d.below(d.items))
	}
	if d.fills && a.Kind == api.DoDeliver && d.below(4) > 0 {
		a.Kind = api.DoCopy
	}
	switch d.below(80) {
	case 0:
		a.A = uint8(d.below(256))
	case 1:
		a.B = uint8(d.below(256))
	}
	return a
}

// acts gives one act that is drawn, or those of a fetch, which often is cut, and into which others come.
func (d *draw) acts(w api.World) []api.Act {
	if d.below(100) >= d.fetch || len(w.Bag) == api.MaxBag {
		return []api.Act{d.act(w)}
	}
	from := uint8(d.below(len(w.Reps)))
	l := []api.Act{begin(uint8(d.below(len(w.Reps))), from)}
	for range 1 + d.below(12) {
		l = append(l, deliver(uint8(len(w.Bag))))
		switch d.below(20) {
		case 0:
			l = append(l, d.act(w))
		case 1:
			l = append(l, filter(from, d.drawnFilter()))
		}
	}
	return l
}

// drawing gives how a script is drawn, and the filters that it begins with.
func drawing(seed int) (*draw, []uint8) {
	d := &draw{numbers: numbers(seed)}
	d.items = chosen(&d.numbers, 4, 12, 30, 64)
	d.fetch = chosen(&d.numbers, 0, 10, 25)
	d.change = chosen(&d.numbers, 1, 5, 15)
	d.fills = d.below(5) == 0
	filters := make([]uint8, chosen(&d.numbers, 1, 2, 2, 3, 3, 4, 5, 8))
	for i := range filters {
		filters[i] = d.drawnFilter()
	}
	return d, filters
}

// scripts does something with each act of count scripts that are drawn: the world, the act, and what came of it.
func scripts(t *testing.T, count int, do func(w api.World, a api.Act, out api.World, m api.Mark)) {
	t.Helper()
	for seed := range count {
		d, filters := drawing(seed)
		w := newWorld(t, filters...)
		var l []api.Act
		for len(l) < api.MaxActs {
			for _, a := range d.acts(w) {
				if len(l) == api.MaxActs {
					break
				}
				out, m := bag.Do(w, a)
				do(w, a, out, m)
				w, l = out, append(l, a)
			}
		}
		cameOfScript(t, w, filters, l)
	}
}

// cameOfScript fails unless a world comes of the script of these filters and acts.
func cameOfScript(t *testing.T, w api.World, filters []uint8, l []api.Act) {
	t.Helper()
	b, e := script.Write(filters, l)
	if e != nil {
		t.Fatal(e)
	}
	if out, _, e := script.Run(b); e != nil || !alike(out, w) {
		t.Fatalf("%v: %s", e, difference(out, w))
	}
}

// someWorlds does something with each so many-th world on the way of count scripts that are drawn, and with the last one.
func someWorlds(t *testing.T, count, each int, do func(w api.World)) {
	t.Helper()
	n := 0
	scripts(t, count, func(_ api.World, _ api.Act, out api.World, _ api.Mark) {
		if n++; n%each == 0 || n%api.MaxActs == 0 {
			do(out)
		}
	})
}

// pairs does something with each two replicas of a world.
func pairs(w api.World, do func(t, s uint8)) {
	for t := range uint8(len(w.Reps)) {
		for s := range uint8(len(w.Reps)) {
			if t != s {
				do(t, s)
			}
		}
	}
}

// number gives a number that is often small, or the greatest one.
func (s *numbers) number() uint32 {
	return chosen[uint32](s, 0, 1, 2, 3, uint32(s.below(8)), uint32(s.below(8)), uint32(s.below(40)), most, most-1, uint32(s.below(1<<31)))
}

// rep gives a number of a replica, which often there is.
func (s *numbers) rep() uint8 {
	return chosen[uint8](s, 0, 1, 2, uint8(s.below(8)), uint8(s.below(10)), uint8(s.below(256)))
}

// run gives any run.
func (s *numbers) run() api.Run {
	from := s.number()
	return run(s.rep(), from, chosen(s, from, from+1, s.number()))
}

// entry gives any entry, that is often right.
func (s *numbers) entry() api.Entry {
	e := api.Entry{ID: uint8(s.below(chosen(s, 4, 64, 70))), Ver: ver(s.rep(), s.number(), s.number()), Kind: chosen(s, 1, 1, 2, 2, 3, 3, s.below(6)-1)}
	switch e.Kind {
	case api.Real:
		e.Value = s.number()
		e.Class = uint8(e.Value % 8)
	case api.Ghost:
		e.Class = uint8(s.below(8))
	}
	if s.below(20) == 0 {
		e.Class, e.Value = uint8(s.below(10)), s.number()
	}
	return e
}

// aside alters a world in one thing, drawn, so that it may be wrong, or not right.
func (s *numbers) aside(w *api.World) {
	if s.below(6) == 0 || len(w.Reps) == 0 {
		s.asideOfWorld(w)
		return
	}
	r := &w.Reps[s.below(len(w.Reps))]
	switch s.below(10) {
	case 0:
		r.Seq = s.near(r.Seq)
	case 1:
		r.Filter = uint8(s.below(256))
	case 2, 3:
		r.Know = aside(s, r.Know, s.run)
	case 4:
		if len(r.Know) > 0 {
			x := &r.Know[s.below(len(r.Know))]
			x.From, x.To = s.near(x.From), s.near(x.To)
		}
	case 5, 6:
		r.Held = aside(s, r.Held, s.entry)
		slices.SortFunc(r.Held, func(a, b api.Entry) int { return int(a.ID) - int(b.ID) })
	case 7, 8:
		if len(r.Held) > 0 {
			s.asideOfEntry(&r.Held[s.below(len(r.Held))])
		}
	case 9:
		r.Session = api.Session{On: s.below(2) == 0, Num: s.number(), From: s.rep(), Cursor: uint8(s.below(70)), Epoch: s.number(), Last: s.number()}
	}
}

// asideOfWorld alters something that isn't of one replica.
func (s *numbers) asideOfWorld(w *api.World) {
	switch s.below(6) {
	case 0, 1:
		w.Made = aside(s, w.Made, s.entry)
	case 2:
		if len(w.Made) > 0 {
			s.asideOfEntry(&w.Made[s.below(len(w.Made))])
		}
	case 3:
		if len(w.Made) > 0 {
			w.Made = slices.Insert(w.Made, s.below(len(w.Made)), chosen(s, w.Made...))
		}
	case 4:
		w.Reps = aside(s, w.Reps, func() api.Replica { return api.Replica{Rep: s.rep(), Filter: 255} })
	case 5:
		w.Bag = aside(s, w.Bag, func() []byte { return []byte{1, 2, 3} })
	}
}

// asideOfEntry alters one thing of an entry.
func (s *numbers) asideOfEntry(e *api.Entry) {
	switch s.below(9) {
	case 0:
		e.Ver.Rep = s.rep()
	case 1:
		e.Ver.Seq = s.near(e.Ver.Seq)
	case 2:
		e.Ver.Stamp = s.near(e.Ver.Stamp)
	case 3:
		e.Kind = 1 + s.below(3)
	case 4:
		e.Class = uint8(s.below(8))
	case 5, 6:
		*e = api.Entry{ID: e.ID, Ver: e.Ver, Kind: api.Ghost, Class: chosen(s, e.Class, uint8(s.below(8)))}
	case 7:
		*e = dead(e.ID, e.Ver)
	case 8:
		*e = valued(e.ID, e.Ver, s.number())
	}
}

// near gives a number that is about n.
func (s *numbers) near(n uint32) uint32 { return n + uint32(s.below(5)) - 2 }

// aside takes one out of a list, or puts one more in.
func aside[T any](s *numbers, l []T, more func() T) []T {
	if at := s.below(len(l) + 1); at < len(l) && s.below(2) == 0 {
		return slices.Delete(l, at, at+1)
	}
	return slices.Insert(l, s.below(len(l)+1), more())
}

// The drawn scripts come to what they should try: each thing that may come of an act; ghosts that are known, and that are wanted; what is dead; sessions of several batches; runs that aren't one.
func TestDrawnScripts(t *testing.T) {
	codes, seen := map[api.Code]int{}, map[string]int{}
	scripts(t, 60, func(w api.World, a api.Act, out api.World, m api.Mark) {
		codes[m.Err]++
		for _, r := range out.Reps {
			if r.Session.Cursor > 0 {
				seen["a later batch"]++
			}
			if len(r.Know) > len(out.Reps) {
				seen["several runs of one"]++
			}
			for _, h := range r.Held {
				seen[fmt.Sprint(h.Kind, meantKnown(r, h.Ver))]++
			}
		}
	})
	for _, code := range []api.Code{0, api.BadFrame, api.BadSum, api.Stale, api.TooMany, api.Outside, api.Nobody, api.Nothing, api.Wrong, api.Ended} {
		if codes[code] < 10 {
			t.Errorf("%v comes %v times", code, codes[code])
		}
	}
	for _, what := range []string{"1 true", "2 true", "2 false", "3 true", "a later batch", "several runs of one"} {
		if seen[what] < 1000 {
			t.Errorf("%s: %v times", what, seen[what])
		}
	}
}

// P10.1: worlds behind scripts, altered in a thing or some, so that anything may be wrong with them, or nothing: held against a second reading.
func TestCheckOfDrawnWorlds(t *testing.T) {
	count := map[api.Code]int{}
	s := numbers(1)
	notRight := 0
	someWorlds(t, 60, 40, func(w api.World) {
		for range 40 {
			w := copied(w)
			for range 1 + s.below(3) {
				s.aside(&w)
			}
			at, code := meantWrong(w)
			is(t, "altered", w, at, code)
			if bag.Right(w) {
				count[code]++
			} else {
				notRight++
			}
		}
	})
	for _, code := range []api.Code{0, api.Wrong, api.Nothing, api.Stale, api.Outside} {
		if count[code] < 100 {
			t.Errorf("%v comes %v times", code, count[code])
		}
	}
}

// P10.1, P10.2: worlds of any numbers, that came of no script: both calls end, and tell what they should.
func TestAnyWorlds(t *testing.T) {
	codes := map[api.Code]int{}
	s := numbers(2)
	for range 20000 {
		var w api.World
		if s.below(4) > 0 {
			w = newWorld(t, make([]uint8, 1+s.below(8))...)
			for i := range w.Reps {
				w.Reps[i].Filter, w.Reps[i].Seq = chosen[uint8](&s, 255, uint8(s.below(256))), s.number()
			}
		}
		if s.below(20) == 0 {
			w = full(w, api.MaxBag)
		}
		for range s.below(12) {
			s.aside(&w)
		}
		at, code := meantWrong(w)
		is(t, "any", w, at, code)
		to, from := chosen(&s, uint8(s.below(4)), s.rep()), chosen(&s, uint8(s.below(4)), s.rep())
		want, n, m := meantFetch(w, to, from)
		fetches(t, "any", w, to, from, want, n, m.Err)
		codes[m.Err]++
	}
	for _, code := range []api.Code{0, api.Wrong, api.Nobody, api.TooMany} {
		if codes[code] < 10 {
			t.Errorf("%v comes %v times", code, codes[code])
		}
	}
	if n := len(audit.Check(api.World{}).Error()); n == 0 {
		t.Error(n)
	}
}
