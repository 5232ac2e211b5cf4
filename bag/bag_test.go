package bag_test

import (
	"errors"
	"slices"
	"testing"

	"tidings/api"
	"tidings/bag"
)

// rightWorld is a world of three replicas that has something of all: entries of each kind, a Session that goes on, frames that can be read and one that can't.
func rightWorld(t *testing.T) api.World {
	t.Helper()
	pull := api.Note{Kind: api.Pull, From: 1, To: 0, Num: 3, Cursor: 8, Filter: 0b11, Know: runs(run(0, 2, 4), run(1, 1, 1))}
	last := api.Note{Kind: api.Batch, From: 0, To: 1, Num: 3, Cursor: 8, Epoch: 2, Entries: entries(valued(9, ver(0, 5, 1), 8)), Next: 10, Done: true}
	return api.World{
		Reps: []api.Replica{
			{
				Rep: 0, Filter: 255, Epoch: 2, Seq: 5, Know: runs(run(0, 1, 5)),
				Held: entries(valued(2, ver(0, 1, 1), 4), dead(3, ver(0, 4, 3)), valued(9, ver(0, 5, 1), 8)),
			},
			{
				Rep: 1, Filter: 0b11, Seq: 1, Know: runs(run(0, 2, 4), run(1, 1, 1)),
				Held:    entries(dead(3, ver(0, 4, 3)), valued(7, ver(1, 1, 1), 9), ghost(8, ver(2, 1, 1), 7)),
				Session: api.Session{On: true, Num: 3, From: 0, Cursor: 8, Epoch: 2, Offer: runs(run(0, 1, 5)), Last: 3},
			},
			{Rep: 2, Filter: 0b10000000, Epoch: 1, Seq: 1, Know: runs(run(2, 1, 1)), Held: entries(valued(8, ver(2, 1, 1), 15)), Session: api.Session{Last: 9}},
		},
		Bag:  [][]byte{frame(t, pull), {0, 0, 1}, frame(t, last)},
		Made: entries(valued(2, ver(0, 1, 1), 4), dead(3, ver(0, 4, 3)), valued(7, ver(1, 1, 1), 9), valued(8, ver(2, 1, 1), 15), valued(9, ver(0, 5, 1), 8)),
	}
}

// wrongWorlds is worlds that aren't right, each for one thing.
func wrongWorlds(t *testing.T) map[string]api.World {
	t.Helper()
	w, all := rightWorld(t), newWorld(t, 1, 2, 3, 4, 5, 6, 7, 8)
	return map[string]api.World{
		"none":                     altered(w, func(w *api.World) { w.Reps = nil }),
		"the zero world":           {},
		"one too many":             altered(all, func(w *api.World) { w.Reps = append(w.Reps, api.Replica{Rep: 8}) }),
		"one too many, of 0":       altered(all, func(w *api.World) { w.Reps = append(w.Reps, api.Replica{}) }),
		"one missing at the start": altered(w, func(w *api.World) { w.Reps = w.Reps[1:] }),
		"one missing between":      altered(w, func(w *api.World) { w.Reps = slices.Delete(w.Reps, 1, 2) }),
		"two turned about":         altered(all, func(w *api.World) { w.Reps[6], w.Reps[7] = w.Reps[7], w.Reps[6] }),
		"one twice":                altered(all, func(w *api.World) { w.Reps[5].Rep = 4 }),
		"the first not right":      altered(w, func(w *api.World) { w.Reps[0].Seq = 4 }),
		"the second not right":     altered(w, func(w *api.World) { w.Reps[1].Session.Num = 4 }),
		"the last not right":       altered(w, func(w *api.World) { w.Reps[2].Know = nil }),
		"the eighth not right":     altered(all, func(w *api.World) { w.Reps[7].Session.From = 1 }),
		"a frame too many":         full(w, api.MaxBag+1),
		"many too many":            full(w, 1000),
	}
}

// P8.1: worlds that are right.
func TestRight(t *testing.T) {
	w := rightWorld(t)
	all := newWorld(t, 1, 2, 3, 4, 5, 6, 7, 8)
	for name, w := range map[string]api.World{
		"of all":            w,
		"one":               {Reps: []api.Replica{{}}},
		"one, empty lists":  {Reps: []api.Replica{{Know: runs(), Held: entries()}}, Bag: [][]byte{}, Made: entries()},
		"eight":             all,
		"one frame fewer":   full(w, api.MaxBag-1),
		"MaxBag frames":     full(w, api.MaxBag),
		"any frames":        bagIs(w, nil, []byte{}, make([]byte, 100000), []byte{255, 255, 0}),
		"anything was made": altered(w, func(w *api.World) { w.Made = entries(api.Entry{}, api.Entry{ID: 200, Kind: -1}, w.Made[0], w.Made[0]) }),
		"nothing was made":  altered(w, func(w *api.World) { w.Made = nil }),
	} {
		if !bag.Right(w) {
			t.Errorf("%s", name)
		}
	}
}

// P8.1: worlds that aren't.
func TestNotRight(t *testing.T) {
	for name, w := range wrongWorlds(t) {
		if bag.Right(w) {
			t.Errorf("%s", name)
		}
	}
}

// P8.1: a world of each number of replicas.
func TestNew(t *testing.T) {
	filters := []uint8{255, 0, 1, 128, 0b10101010, 255, 7, 3}
	for count := 1; count <= api.MaxReps; count++ {
		w, e := bag.New(filters[:count])
		var want api.World
		for i := range count {
			want.Reps = append(want.Reps, api.Replica{Rep: uint8(i), Filter: filters[i]})
		}
		if e != nil || !alike(w, want) || !bag.Right(w) {
			t.Errorf("%v: %+v %v", count, w, e)
		}
	}
}

// P8.1: no replica, one too many, and many.
func TestNewOfWrong(t *testing.T) {
	for _, filters := range [][]uint8{nil, {}, make([]uint8, api.MaxReps+1), make([]uint8, 256), make([]uint8, 257), make([]uint8, 100000)} {
		if w, e := bag.New(filters); !errors.Is(e, api.Wrong) || !alike(w, api.World{}) {
			t.Errorf("%v: %+v %v", len(filters), w, e)
		}
	}
}
