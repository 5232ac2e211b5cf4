package script_test

import (
	"errors"
	"reflect"
	"slices"
	"testing"

	"tidings/api"
	"tidings/bag"
	"tidings/script"
)

const most = api.MaxNumber

// The acts, by what they do.
func put(a, item uint8, n uint32) api.Act { return api.Act{Kind: api.DoPut, A: a, B: item, N: n} }
func erase(a, item uint8) api.Act         { return api.Act{Kind: api.DoDelete, A: a, B: item} }
func get(a, item uint8) api.Act           { return api.Act{Kind: api.DoGet, A: a, B: item} }
func filter(a, filter uint8) api.Act      { return api.Act{Kind: api.DoFilter, A: a, B: filter} }
func begin(a, from uint8) api.Act         { return api.Act{Kind: api.DoBegin, A: a, B: from} }
func again(a uint8) api.Act               { return api.Act{Kind: api.DoAgain, A: a} }
func quit(a uint8) api.Act                { return api.Act{Kind: api.DoQuit, A: a} }
func deliver(at uint8) api.Act            { return api.Act{Kind: api.DoDeliver, B: at} }
func drop(at uint8) api.Act               { return api.Act{Kind: api.DoDrop, B: at} }
func double(at uint8) api.Act             { return api.Act{Kind: api.DoCopy, B: at} }
func spoil(at uint8, n uint32) api.Act    { return api.Act{Kind: api.DoSpoil, B: at, N: n} }

// list makes a list of acts.
func list(l ...api.Act) []api.Act { return l }

// some makes a list of filters.
func some(l ...uint8) []uint8 { return l }

// all gives count filters that are 255.
func all(count int) []uint8 { return slices.Repeat([]uint8{255}, count) }

// ofActs gives count acts, no two neighbours alike.
func ofActs(count int) []api.Act {
	l := make([]api.Act, count)
	for i := range l {
		l[i] = put(uint8(i), uint8(i%64), uint32(i))
	}
	return l
}

// bytesOf gives the bytes of acts, by the document's words.
func bytesOf(l ...api.Act) []byte {
	var b []byte
	for _, a := range l {
		b = append(b, uint8(a.Kind-1), a.A, a.B, uint8(a.N/16777216), uint8(a.N/65536%256), uint8(a.N/256%256), uint8(a.N%256))
	}
	return b
}

// joined gives bytes one behind the other.
func joined(l ...[]byte) []byte { return slices.Concat(l...) }

// tail gives count bytes that stand behind acts.
func tail(count int) []byte { return []byte{0, 1, 2, 3, 4, 5, 6}[:count] }

// meant is how bytes are read, by the document's words.
func meant(b []byte) ([]uint8, []api.Act, error) {
	if len(b) == 0 {
		return nil, nil, api.Nothing
	}
	var filters []uint8
	var l []api.Act
	at := 1
	for range b[0]%8 + 1 {
		if at < len(b) {
			filters = append(filters, b[at])
			at++
		} else {
			filters = append(filters, 255)
		}
	}
	for ; at+7 <= len(b); at += 7 {
		n := ((uint64(b[at+3])*256+uint64(b[at+4]))*256+uint64(b[at+5]))*256 + uint64(b[at+6])
		l = append(l, api.Act{Kind: int(b[at]%11) + 1, A: b[at+1], B: b[at+2], N: uint32(n)})
	}
	if len(l) > 400 {
		return nil, nil, api.TooMany
	}
	return filters, l, nil
}

// isRead fails unless bytes are read as these filters and acts.
func isRead(t *testing.T, name string, b []byte, filters []uint8, l []api.Act) {
	t.Helper()
	f, acts, e := script.Read(b)
	if e != nil || !slices.Equal(f, filters) || !slices.Equal(acts, l) {
		t.Errorf("%s: %v and %v, %v, not %v and %v", name, f, shown(acts), e, filters, shown(l))
	}
}

// isWritten fails unless filters and acts are written as these bytes, which are read as them.
func isWritten(t *testing.T, name string, filters []uint8, l []api.Act, want []byte) {
	t.Helper()
	b, e := script.Write(filters, l)
	if e != nil || !slices.Equal(b, want) {
		t.Errorf("%s: %v, %v, not %v", name, shown(b), e, shown(want))
	}
	isRead(t, name, b, filters, l)
}

// isRun fails unless of bytes that world comes, and these marks.
func isRun(t *testing.T, name string, b []byte, want api.World, marks []api.Mark) {
	t.Helper()
	w, got, e := script.Run(b)
	if e != nil || !alike(w, want) {
		t.Errorf("%s: %+v, %v\nnot %+v", name, w, e, want)
	}
	if !slices.Equal(got, marks) {
		t.Errorf("%s: marks %v, not %v", name, shown(got), shown(marks))
	}
}

// isNotRead fails unless bytes are neither read nor run, with that code, and nothing beside it.
func isNotRead(t *testing.T, name string, b []byte, want api.Code) {
	t.Helper()
	if f, l, e := script.Read(b); !errors.Is(e, want) || len(f) != 0 || len(l) != 0 {
		t.Errorf("%s: read %v, %v, %v", name, f, shown(l), e)
	}
	if w, marks, e := script.Run(b); !errors.Is(e, want) || !alike(w, api.World{}) || len(marks) != 0 {
		t.Errorf("%s: run %+v, %v, %v", name, w, shown(marks), e)
	}
}

// isNotWritten fails unless filters and acts aren't written, with that code, and nothing beside it.
func isNotWritten(t *testing.T, name string, filters []uint8, l []api.Act, want api.Code) {
	t.Helper()
	if b, e := script.Write(filters, l); !errors.Is(e, want) || len(b) != 0 {
		t.Errorf("%s: %v, %v, not %v", name, shown(b), e, want)
	}
}

// shown gives the first elements of a list.
func shown[T any](l []T) []T { return l[:min(len(l), 20)] }

// alike: two worlds, nil and empty lists meaning the same.
func alike(a, b api.World) bool { return reflect.DeepEqual(plain(a), plain(b)) }

// plain gives a world in memory of its own, in which each list that has no elements is nil.
func plain(w api.World) api.World {
	w.Reps, w.Bag, w.Made = unlessEmpty(w.Reps), unlessEmpty(w.Bag), unlessEmpty(w.Made)
	for i := range w.Reps {
		r := &w.Reps[i]
		r.Know, r.Held, r.Session.Offer = unlessEmpty(r.Know), unlessEmpty(r.Held), unlessEmpty(r.Session.Offer)
	}
	for i := range w.Bag {
		w.Bag[i] = unlessEmpty(w.Bag[i])
	}
	return w
}

// unlessEmpty gives a list alike, in memory of its own, or nil.
func unlessEmpty[T any](l []T) []T { return append([]T(nil), l...) }

// done gives the world of filters behind acts that are done one by one, and their marks.
func done(t *testing.T, filters []uint8, l ...api.Act) (api.World, []api.Mark) {
	t.Helper()
	w, e := bag.New(filters)
	if e != nil {
		t.Fatalf("%v of %v", e, filters)
	}
	var marks []api.Mark
	for _, a := range l {
		out, m := bag.Do(w, a)
		w, marks = out, append(marks, m)
	}
	return w, marks
}

// numbers gives numbers that look like none in particular, the same ones in each run.
type numbers uint64

// below gives the next one, below n.
func (s *numbers) below(n int) int {
	*s = *s*6364136223846793005 + 1442695040888963407
	return int(uint64(*s) >> 33 % uint64(n))
}

// chosen gives one of a list.
func chosen[T any](s *numbers, l ...T) T { return l[s.below(len(l))] }

// bytes gives count bytes of any value.
func (s *numbers) bytes(count int) []byte {
	b := make([]byte, count)
	for i := range b {
		b[i] = byte(s.below(256))
	}
	return b
}

// filters gives filters that often end with 255.
func (s *numbers) filters() []uint8 {
	l := make([]uint8, 1+s.below(api.MaxReps))
	for i := range l {
		l[i] = chosen[uint8](s, 255, 255, 255, 0, 254, 15, uint8(s.below(256)))
	}
	return l
}

// act gives an act that often can be done in a world of count replicas.
func (s *numbers) act(count int) api.Act {
	a := api.Act{A: uint8(s.below(count)), B: uint8(s.below(3)), N: uint32(s.below(1<<31))<<1 + uint32(s.below(2))}
	a.Kind = chosen(s, 1, 1, 1, 1, 2, 3, 4, 5, 5, 6, 7, 8, 8, 8, 8, 8, 8, 8, 8, 8, 8, 9, 10, 11)
	switch {
	case a.Kind == api.DoFilter:
		a.B = chosen[uint8](s, 255, 127, 15, uint8(s.below(256)))
	case a.Kind == api.DoBegin:
		a.B = uint8(s.below(count))
	case a.Kind < api.DoBegin:
		a.B = uint8(s.below(16) * 4)
	}
	switch s.below(40) {
	case 0:
		a.A = uint8(s.below(256))
	case 1:
		a.B = uint8(s.below(256))
	}
	return a
}

// acts gives acts that often can be done in a world of count replicas; some fill the Bag.
func (s *numbers) acts(count, length int) []api.Act {
	fills := s.below(3) == 0
	l := make([]api.Act, length)
	for i := range l {
		l[i] = s.act(count)
		if fills && l[i].Kind == api.DoDeliver && s.below(2) == 0 {
			l[i].Kind = api.DoCopy
		}
	}
	return l
}
