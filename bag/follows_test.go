package bag_test

import (
	"math"
	"reflect"
	"slices"
	"testing"

	"tidings/api"
	"tidings/bag"
	"tidings/item"
	"tidings/note"
	"tidings/replica"
	"tidings/source"
	"tidings/target"
)

// This file holds Do against a second reading of the document, over long ways through worlds; P8.3; and the rules.

// meant is the world behind an act, and its mark, by the document's words, of a world that is right.
func meant(w api.World, a api.Act) (api.World, api.Mark) {
	out := copied(w)
	wrong := func(e error) (api.World, api.Mark) { return out, api.Mark{Err: codeOf(e)} }
	names := a.Kind == api.DoPut || a.Kind == api.DoDelete || a.Kind == api.DoGet || a.Kind == api.DoFilter || a.Kind == api.DoBegin || a.Kind == api.DoAgain || a.Kind == api.DoQuit
	lies := a.Kind == api.DoDeliver || a.Kind == api.DoDrop || a.Kind == api.DoCopy || a.Kind == api.DoSpoil
	at := int(a.B)
	switch {
	case !names && !lies:
		return wrong(api.Wrong)
	case names && int(a.A) > len(w.Reps)-1:
		return wrong(api.Nobody)
	case lies && at > len(w.Bag)-1:
		return wrong(api.Nothing)
	case len(w.Bag) >= 64 && (a.Kind == api.DoBegin || a.Kind == api.DoAgain || a.Kind == api.DoCopy):
		return wrong(api.TooMany)
	case lies:
		return meantOfFrame(out, a)
	}
	r, sent, value, e := meantOfReplica(w.Reps[a.A], a)
	if e != nil {
		return wrong(e)
	}
	out.Reps[a.A] = r
	if r.Seq != w.Reps[a.A].Seq {
		i := slices.IndexFunc(r.Held, func(e api.Entry) bool { return e.Ver.Rep == r.Rep && e.Ver.Seq == r.Seq })
		out.Made = append(out.Made, r.Held[i])
	}
	if sent.Kind != 0 {
		f, _ := note.Write(sent)
		out.Bag = append(out.Bag, f)
	}
	return out, api.Mark{Value: value}
}

// meantOfReplica is what becomes of the replica that an act names, what it sends, and what is told.
func meantOfReplica(r api.Replica, a api.Act) (out api.Replica, sent api.Note, value uint32, e error) {
	out = r
	switch a.Kind {
	case api.DoPut:
		out, e = replica.Put(r, a.B, a.N)
	case api.DoDelete:
		out, e = replica.Delete(r, a.B)
	case api.DoGet:
		value, e = replica.Get(r, a.B)
	case api.DoFilter:
		out, e = replica.Change(r, a.B)
	case api.DoBegin:
		out, sent, e = target.Begin(r, a.B)
	case api.DoAgain:
		sent, e = target.Again(r)
	case api.DoQuit:
		out, e = target.Quit(r)
	}
	return out, sent, value, e
}

// meantOfFrame is what becomes of a world by an act that names a frame, which is there.
func meantOfFrame(w api.World, a api.Act) (api.World, api.Mark) {
	f := w.Bag[a.B]
	n, e := note.Read(f)
	ahead, back := w.Bag[:a.B], w.Bag[int(a.B)+1:]
	switch a.Kind {
	case api.DoSpoil:
		if e == nil {
			f[int(a.N)%65536%len(f)] ^= byte(a.N / 65536 % 256)
		}
		return w, api.Mark{}
	case api.DoCopy:
		w.Bag = append(w.Bag, slices.Clone(f))
		return w, api.Mark{}
	}
	w.Bag = slices.Concat(ahead, back)
	switch {
	case a.Kind == api.DoDrop:
		return w, api.Mark{}
	case e != nil:
		return w, api.Mark{Err: codeOf(e)}
	case int(n.To) > len(w.Reps)-1:
		return w, api.Mark{Err: api.Nobody}
	}
	var sent api.Note
	if n.Kind == api.Pull {
		sent, e = source.Answer(w.Reps[n.To], n)
	} else {
		var r api.Replica
		if r, sent, _, e = target.Accept(w.Reps[n.To], n); e == nil || codeOf(e) == api.Ended {
			w.Reps[n.To] = r
		}
	}
	if sent.Kind != 0 {
		f, _ := note.Write(sent)
		w.Bag = append(w.Bag, f)
	}
	return w, api.Mark{Err: codeOf(e)}
}

// numbers gives numbers that look like none in particular, the same ones in each run.
type numbers uint64

// below gives the next one, below n.
func (s *numbers) below(n int) int {
	*s = *s*6364136223846793005 + 1442695040888963407
	return int(uint64(*s) >> 33 % uint64(n))
}

// chosen gives one of a list.
func chosen[T any](s *numbers, l ...T) T { return l[s.below(len(l))] }

// act gives an act that often can be done in a world.
func (s *numbers) act(w api.World) api.Act {
	a := api.Act{A: uint8(s.below(len(w.Reps))), N: uint32(s.below(1 << 30))}
	a.Kind = chosen(s, 1, 1, 1, 1, 2, 3, 4, 5, 5, 5, 6, 7, 8, 8, 8, 8, 8, 8, 8, 8, 8, 8, 9, 10, 10, 11)
	switch {
	case a.Kind >= api.DoDeliver:
		a.B = uint8(s.below(len(w.Bag) + 1))
	case a.Kind == api.DoFilter:
		a.B = chosen[uint8](s, 255, 255, 127, 85, 1, uint8(s.below(256)))
	case a.Kind == api.DoBegin:
		a.B = uint8(s.below(len(w.Reps) + s.below(2)))
	default:
		a.B = uint8(s.below(16) * 4)
	}
	switch s.below(60) {
	case 0:
		a.A = uint8(s.below(256))
	case 1:
		a.B = uint8(s.below(256))
	case 2:
		a.Kind = s.below(16) - 2
	case 3:
		a.N = uint32(s.below(16) * 65536 * 37)
	}
	return a
}

// ways does something with each act on long ways through worlds: each step's world, its act, and what came of it.
func ways(count int, do func(w api.World, a api.Act, out api.World, m api.Mark)) {
	for seed := range count {
		s := numbers(seed)
		filters := make([]uint8, 1+s.below(api.MaxReps))
		for i := range filters {
			filters[i] = chosen[uint8](&s, 255, 255, 15, 240, uint8(s.below(256)))
		}
		w, _ := bag.New(filters)
		for range api.MaxActs {
			a := s.act(w)
			if seed%3 == 0 && a.Kind == api.DoDeliver && s.below(2) == 0 {
				a.Kind = api.DoCopy // so that the Bag comes to be full
			}
			out, m := bag.Do(w, a)
			do(w, a, out, m)
			w = out
		}
	}
}

// P8.2: each act, on long ways through worlds, held against a second reading; each thing that may come of it does.
func TestAllActs(t *testing.T) {
	count := map[api.Act]int{}
	ways(60, func(w api.World, a api.Act, out api.World, m api.Mark) {
		want, mark := meant(w, a)
		if m != mark || !alike(out, want) {
			t.Fatalf("%+v: %v, not %v: %s", a, m, mark, difference(out, want))
		}
		count[api.Act{Kind: a.Kind, N: uint32(m.Err)}]++
	})
	for kind, codes := range map[int][]api.Code{
		0: {api.Wrong}, 12: {api.Wrong},
		api.DoPut:     {0, api.Nobody, api.Wrong, api.Outside},
		api.DoDelete:  {0, api.Nobody, api.Wrong, api.Nothing},
		api.DoGet:     {0, api.Nobody, api.Nothing},
		api.DoFilter:  {0, api.Nobody},
		api.DoBegin:   {0, api.Nobody, api.Wrong, api.TooMany},
		api.DoAgain:   {0, api.Nobody, api.Nothing, api.TooMany},
		api.DoQuit:    {0, api.Nobody, api.Nothing},
		api.DoDeliver: {0, api.Nothing, api.Nobody, api.BadFrame, api.BadSum, api.Stale, api.Ended},
		api.DoDrop:    {0, api.Nothing},
		api.DoCopy:    {0, api.Nothing, api.TooMany},
		api.DoSpoil:   {0, api.Nothing},
	} {
		for _, code := range codes {
			if n := count[api.Act{Kind: kind, N: uint32(code)}]; n == 0 {
				t.Errorf("Kind %v: %v never comes", kind, code)
			}
		}
	}
}

// P8.3: a world that is right stays so, and what no act names stays as it is.
func TestWhatFollows(t *testing.T) {
	ways(60, func(w api.World, a api.Act, out api.World, m api.Mark) {
		if !bag.Right(out) {
			t.Fatalf("%+v: not right any more: %+v", a, out)
		}
		named := int(a.A)
		if a.Kind >= api.DoDeliver {
			named = whom(w, a)
		}
		for i := range w.Reps {
			if i != named && !reflect.DeepEqual(plain(w).Reps[i], plain(out).Reps[i]) {
				t.Fatalf("%+v: replica %v is altered", a, i)
			}
		}
		made := len(out.Made) - len(w.Made)
		if writes := m.Err == 0 && (a.Kind == api.DoPut || a.Kind == api.DoDelete); made != 0 && !writes || made != 1 && writes || !slices.Equal(out.Made[:len(w.Made)], w.Made) {
			t.Fatalf("%+v: made %v, and was %v", a, out.Made, w.Made)
		}
		if held := slices.Clone(out.Made[len(w.Made):]); len(held) > 0 {
			if e, _ := item.Find(out.Reps[named].Held, a.B); e != held[0] {
				t.Fatalf("%+v: made %v, and held is %v", a, held, e)
			}
		}
		if stay := staying(w, a); !slices.EqualFunc(stay, out.Bag[:len(stay)], slices.Equal) || len(out.Bag) > len(stay)+1 {
			t.Fatalf("%+v: frames %v, and were %v", a, out.Bag, w.Bag)
		}
	})
}

// whom tells for whom a frame is that is delivered; -1: for nobody.
func whom(w api.World, a api.Act) int {
	if a.Kind != api.DoDeliver || int(a.B) >= len(w.Bag) {
		return -1
	}
	n, e := note.Read(w.Bag[a.B])
	if e != nil || n.Kind == api.Pull {
		return -1
	}
	return int(n.To)
}

// staying gives the frames that an act leaves in the Bag, ahead of what comes behind all.
func staying(w api.World, a api.Act) [][]byte {
	l := copied(w).Bag
	at := int(a.B)
	if a.Kind < api.DoDeliver || a.Kind > api.DoSpoil || at >= len(l) {
		return l
	}
	switch _, e := note.Read(l[at]); {
	case a.Kind <= api.DoDrop:
		return slices.Delete(l, at, at+1)
	case a.Kind == api.DoSpoil && e == nil:
		l[at][int(a.N)%65536%len(l[at])] ^= byte(a.N >> 16)
	}
	return l
}

// roomy gives a list with spare room, in which one stands.
func roomy[T any](l []T, spare T) []T { return append(slices.Clone(l), spare)[:len(l)] }

// given gives a world whose lists have spare room, and what tells whether it is as it was, the spare room too.
func given(w api.World) (api.World, func() bool) {
	full, none := run(255, 255, 255), api.Entry{ID: 255}
	roomed := func(w api.World) api.World {
		w = copied(w)
		for i := range w.Reps {
			r := &w.Reps[i]
			r.Know, r.Held, r.Session.Offer = roomy(r.Know, full), roomy(r.Held, none), roomy(r.Session.Offer, full)
		}
		for i := range w.Bag {
			w.Bag[i] = roomy(w.Bag[i], 77)
		}
		w.Reps, w.Bag, w.Made = roomy(w.Reps, api.Replica{Rep: 99}), roomy(w.Bag, []byte{99}), roomy(w.Made, none)
		return w
	}
	g, was := roomed(w), spread(roomed(w))
	reps, frames := g.Reps, g.Bag
	return g, func() bool {
		return slices.Equal(spread(g), was) && reflect.DeepEqual(reps[:len(reps)+1][len(reps)], api.Replica{Rep: 99}) && slices.Equal(frames[:len(frames)+1][len(frames)], []byte{99})
	}
}

// spread tells all that a world has in its lists, their spare room too (but that of Reps and Bag), as numbers.
func spread(w api.World) []uint32 {
	var l []uint32
	room := func(k []api.Run, es []api.Entry) {
		for _, x := range k[:cap(k)][:min(len(k)+1, cap(k))] {
			l = append(l, uint32(x.Rep), x.From, x.To)
		}
		for _, e := range es[:cap(es)][:min(len(es)+1, cap(es))] {
			l = append(l, uint32(e.ID), uint32(e.Ver.Rep), e.Ver.Seq, e.Ver.Stamp, uint32(e.Kind), uint32(e.Class), e.Value)
		}
	}
	for _, r := range w.Reps {
		room(r.Know, r.Held)
		room(r.Session.Offer, nil)
		l = append(l, uint32(r.Rep), uint32(r.Filter), r.Epoch, r.Seq, r.Session.Num, uint32(r.Session.From), uint32(r.Session.Cursor), r.Session.Epoch, r.Session.Last)
	}
	for _, f := range w.Bag {
		for _, b := range f[:cap(f)][:min(len(f)+1, cap(f))] {
			l = append(l, uint32(b))
		}
		l = append(l, 1000, uint32(len(f)))
	}
	room(nil, w.Made)
	return append(l, uint32(len(w.Reps)), uint32(len(w.Bag)), uint32(len(w.Made)))
}

// overwrite writes a number of its own all over each list of a world, its spare room too, and tells whether each has kept its own: whether no two share memory.
func overwrite(w api.World) bool {
	var checks []func() bool
	number := uint8(0)
	runs := func(k []api.Run) {
		number++
		checks = append(checks, fill(k, api.Run{Rep: number}))
	}
	entries := func(l []api.Entry) {
		number++
		checks = append(checks, fill(l, api.Entry{ID: number}))
	}
	for _, r := range w.Reps {
		runs(r.Know)
		runs(r.Session.Offer)
		entries(r.Held)
	}
	entries(w.Made)
	for _, f := range w.Bag {
		number++
		checks = append(checks, fill(f, number))
	}
	ok := true
	for _, kept := range checks {
		ok = ok && kept()
	}
	clear(w.Reps[:cap(w.Reps)])
	clear(w.Bag[:cap(w.Bag)])
	return ok
}

// fill writes something all over a list, and gives what tells whether it stands there still.
func fill[T comparable](l []T, by T) func() bool {
	l = l[:cap(l)]
	for i := range l {
		l[i] = by
	}
	return func() bool { return !slices.ContainsFunc(l, func(x T) bool { return x != by }) }
}

// alone fails if an act changes the world that was handed in, or if what is told shares memory with it, or within itself.
func alone(t *testing.T, w api.World, a api.Act) {
	t.Helper()
	g, untouched := given(w)
	out, _ := bag.Do(g, a)
	if !untouched() {
		t.Fatalf("%+v: changed: %+v", a, g)
	}
	if !overwrite(out) {
		t.Fatalf("%+v: two lists of what is told share memory", a)
	}
	if !untouched() {
		t.Fatalf("%+v: shared: %+v", a, g)
	}
}

// Rule 3: what is handed in stays, its spare room too, also where something goes wrong, and what is told isn't bound to it.
func TestArgumentsStay(t *testing.T) {
	n := 0
	ways(30, func(w api.World, a api.Act, _ api.World, _ api.Mark) {
		if n++; n%3 == 0 {
			alone(t, w, a)
		}
	})
	w := rightWorld(t)
	ended := behind(t, halfway(t), filter(0, 1), deliver(0))
	alone(t, ended, deliver(0))
	for at := range uint8(4) {
		for _, a := range eachKind(at, at) {
			alone(t, w, a)
			alone(t, full(w, api.MaxBag), a)
		}
	}
	for _, w := range wrongWorlds(t) {
		if len(w.Bag) <= api.MaxBag+1 {
			alone(t, w, put(0, 1, 1))
			alone(t, w, deliver(0))
		}
	}
}

// Rule 3: frames that share memory in what was handed in don't in what is told: one is spoiled, and the other one isn't.
func TestSharedFrames(t *testing.T) {
	w := rightWorld(t)
	w.Bag[1] = w.Bag[0]
	alone(t, w, spoil(0, 65536+5))
	comes(t, "spoiled", w, spoil(0, 65536+5), spoiledAt(w, 0, 5, 1), 0)
}

// Rule 3: filters stay, and a world that is told isn't bound to them, nor to another one.
func TestFiltersStay(t *testing.T) {
	filters := roomy([]uint8{1, 2, 255}, 9)
	w, _ := bag.New(filters)
	twin, _ := bag.New(filters)
	if !slices.Equal(filters[:4], []uint8{1, 2, 255, 9}) {
		t.Errorf("%v", filters[:4])
	}
	clear(filters[:4])
	overwrite(w)
	if !alike(twin, newWorld(t, 1, 2, 255)) {
		t.Errorf("%+v", twin)
	}
}

// Rule 4: what a call answers hangs on its arguments alone, also behind ones that went wrong.
func TestCallsAreAlone(t *testing.T) {
	w := rightWorld(t)
	want, mark := meant(w, deliver(0))
	for range 3 {
		marked(t, "again", w, deliver(0), want, mark)
		comes(t, "between", w, get(0, 9), w, 8)
		fails(t, "between", w, get(0, 1), api.Nothing)
		fails(t, "between", api.World{}, get(0, 9), api.Wrong)
		fails(t, "between", full(w, api.MaxBag), double(0), api.TooMany)
	}
}

// Rule 5: whatever worlds and acts, also far beyond every limit, each call ends.
func TestManyOfAll(t *testing.T) {
	const count = 100000
	w := rightWorld(t)
	worlds := []api.World{
		{Reps: slices.Repeat([]api.Replica{{}}, count)},
		{Reps: w.Reps, Bag: make([][]byte, count)},
		altered(w, func(w *api.World) { w.Reps[1].Know = slices.Repeat(runs(run(0, 1, 1)), count) }),
		altered(w, func(w *api.World) { w.Reps[1].Held = slices.Repeat(w.Reps[1].Held, count) }),
		altered(w, func(w *api.World) { w.Reps[2].Session.Offer = slices.Repeat(runs(run(0, 1, 1)), count) }),
	}
	for _, w := range worlds {
		if bag.Right(w) {
			t.Errorf("%v %v", len(w.Reps), len(w.Bag))
		}
		for _, a := range eachKind(1, 1) {
			fails(t, "many", w, a, api.Wrong)
		}
	}
	w.Made = slices.Repeat(w.Made, count)
	for _, kind := range []int{api.DoGet, math.MinInt, math.MaxInt} {
		if out, m := bag.Do(w, api.Act{Kind: kind, B: 9}); len(out.Made) != len(w.Made) || m.Err == 0 && m.Value != 8 {
			t.Errorf("%v: %v", kind, m)
		}
	}
}
