package item_test

import (
	"errors"
	"slices"
	"testing"

	"tidings/api"
	"tidings/item"
)

const most = api.MaxNumber

// ver makes a version, its parts in the order by which one is less than another.
func ver(stamp uint32, rep uint8, seq uint32) api.Ver {
	return api.Ver{Rep: rep, Seq: seq, Stamp: stamp}
}

// valued makes a right Real entry.
func valued(id uint8, v api.Ver, value uint32) api.Entry {
	return api.Entry{ID: id, Ver: v, Kind: api.Real, Class: uint8(value % 8), Value: value}
}

// ghost makes a Ghost.
func ghost(id uint8, v api.Ver, class uint8) api.Entry {
	return api.Entry{ID: id, Ver: v, Kind: api.Ghost, Class: class}
}

// dead makes a right Dead entry.
func dead(id uint8, v api.Ver) api.Entry { return api.Entry{ID: id, Ver: v, Kind: api.Dead} }

// all makes one entry of each item there may be, the kinds in turns.
func all() []api.Entry {
	var l []api.Entry
	for id := range uint8(api.MaxItems) {
		v := ver(uint32(id)+1, id%8, uint32(id)+5)
		l = append(l, []api.Entry{valued(id, v, uint32(id)*9), ghost(id, v, id%8), dead(id, v)}[id%3])
	}
	return l
}

// without gives all but the entry of an item, in memory of its own.
func without(id uint8) []api.Entry { return slices.Concat(all()[:id], all()[id+1:]) }

// risingVers is versions, each less than the next: they differ by Stamp, by Rep, or by Seq alone, or by several that pull apart.
func risingVers() []api.Ver {
	return []api.Ver{
		ver(0, 0, 0), ver(0, 255, most),
		ver(1, 0, 1), ver(1, 0, 2), ver(1, 0, most), ver(1, 1, 1), ver(1, 7, 1), ver(1, 7, most),
		ver(2, 0, 1), ver(2, 0, 2), ver(2, 1, 1), ver(2, 7, 1), ver(3, 0, 1),
		ver(1<<31, 3, 3), ver(most, 0, 1), ver(most, 0, most), ver(most, 7, 1), ver(most, 255, 0),
	}
}

// wrongEntries is an entry for each way in which one may fail to be right by itself.
func wrongEntries() map[string]api.Entry {
	v := ver(4, 3, 2)
	of := func(kind int, class uint8, value uint32) api.Entry {
		return api.Entry{ID: 5, Ver: v, Kind: kind, Class: class, Value: value}
	}
	return map[string]api.Entry{
		"zero":                    {},
		"Rep 8":                   valued(5, ver(4, 8, 2), 1),
		"Rep 255":                 ghost(5, ver(4, 255, 2), 1),
		"Seq 0":                   valued(5, ver(4, 3, 0), 1),
		"Seq 0, ghost":            ghost(5, ver(4, 3, 0), 1),
		"Stamp 0":                 valued(5, ver(0, 3, 2), 1),
		"Stamp 0, dead":           dead(5, ver(0, 3, 2)),
		"ID 64":                   valued(64, v, 1),
		"ID 255":                  valued(255, v, 1),
		"ID 64, ghost":            ghost(64, v, 1),
		"ID 64, dead":             dead(64, v),
		"Real, another Class":     of(api.Real, 1, 2),
		"Real, Class 0 of 1":      of(api.Real, 0, 1),
		"Real, Class 7 of 6":      of(api.Real, 7, 6),
		"Real, Class 8 of 8":      of(api.Real, 8, 8),
		"Real, Class is Value":    of(api.Real, 255, 255),
		"Real, Class of the most": of(api.Real, 0, most),
		"Ghost, Class 8":          of(api.Ghost, 8, 0),
		"Ghost, Class 255":        of(api.Ghost, 255, 0),
		"Ghost, a Value":          of(api.Ghost, 1, 1),
		"Ghost, Value 8, Class 0": of(api.Ghost, 0, 8),
		"Dead, a Class":           of(api.Dead, 1, 0),
		"Dead, Class 7":           of(api.Dead, 7, 0),
		"Dead, Class 8":           of(api.Dead, 8, 0),
		"Dead, a Value":           of(api.Dead, 0, 8),
		"Dead, both":              of(api.Dead, 1, 1),
		"kind 0":                  of(0, 0, 0),
		"kind 0, a Value":         of(0, 1, 1),
		"kind 4":                  of(4, 0, 0),
		"kind -1":                 of(-1, 0, 0),
		"kind 257":                of(257, 1, 1),
		"kind 258":                of(258, 1, 0),
	}
}

// wrongLists is a list of entries, each right, for each way in which these may fail to be so together.
func wrongLists() map[string][]api.Entry {
	v, greater := ver(1, 1, 1), ver(2, 1, 2)
	return map[string][]api.Entry{
		"fall":                {valued(2, v, 1), valued(1, greater, 1)},
		"fall at last":        {valued(1, v, 1), valued(3, greater, 1), dead(2, v)},
		"fall by all":         {valued(63, v, 1), valued(0, greater, 1)},
		"two alike":           {valued(2, v, 1), valued(2, v, 1)},
		"two of one ID":       {valued(2, v, 1), ghost(2, greater, 1)},
		"two of ID 0":         {dead(0, v), dead(0, greater)},
		"two of one ID, last": {dead(0, v), dead(63, v), valued(63, v, 9)},
		"two of one ID, far":  {dead(1, v), dead(2, v), dead(1, v)},
		"one of all twice":    append(all(), all()[63]),
		"turned about":        {dead(3, v), dead(2, v), dead(1, v)},
	}
}

// P2.1: which versions are right.
func TestRightVer(t *testing.T) {
	for _, v := range []api.Ver{ver(1, 0, 1), ver(1, 7, 1), ver(most, 0, 1), ver(1, 0, most), ver(most, 7, most), ver(3, 4, 5)} {
		if !item.RightVer(v) {
			t.Errorf("%v: not right", v)
		}
	}
	for _, v := range []api.Ver{{}, ver(1, 0, 0), ver(0, 0, 1), ver(0, 7, 0), ver(1, 8, 1), ver(1, 255, 1), ver(most, 8, most), ver(most, 7, 0), ver(0, 7, most)} {
		if item.RightVer(v) {
			t.Errorf("%v: right", v)
		}
	}
}

// P2.1: of every two versions of a list that rises, right or not.
func TestCmp(t *testing.T) {
	l := risingVers()
	for i, a := range l {
		for j, b := range l {
			want := 0
			if i < j {
				want = -1
			} else if i > j {
				want = 1
			}
			if got := item.Cmp(a, b); got != want {
				t.Errorf("%v and %v: %v, not %v", a, b, got, want)
			}
		}
	}
}

// P2.1: which entries are right, one by one.
func TestRightEntry(t *testing.T) {
	v := ver(4, 3, 2)
	for name, e := range map[string]api.Entry{
		"Real, Value 0":    valued(5, v, 0),
		"Real, Value 7":    valued(5, v, 7),
		"Real, Value 8":    {ID: 5, Ver: v, Kind: api.Real, Class: 0, Value: 8},
		"Real, Value 259":  {ID: 5, Ver: v, Kind: api.Real, Class: 3, Value: 259},
		"Real, Value most": {ID: 5, Ver: v, Kind: api.Real, Class: 7, Value: most},
		"Ghost, Class 0":   ghost(5, v, 0),
		"Ghost, Class 7":   ghost(5, v, 7),
		"Dead":             dead(5, v),
		"ID 0":             dead(0, v),
		"ID 63":            valued(63, v, 1),
		"Rep 0":            valued(5, ver(1, 0, 1), 1),
		"Rep 7":            valued(5, ver(most, 7, most), 1),
	} {
		if !item.Right([]api.Entry{e}) {
			t.Errorf("%s: not right", name)
		}
	}
	for name, e := range wrongEntries() {
		if item.Right([]api.Entry{e}) {
			t.Errorf("%s: right", name)
		}
		if e.ID > 0 && item.Right([]api.Entry{dead(0, v), e}) {
			t.Errorf("%s, at last: right", name)
		}
		if e.ID < 63 && item.Right([]api.Entry{e, dead(63, v)}) {
			t.Errorf("%s, first: right", name)
		}
	}
}

// P2.1: which lists are right.
func TestRight(t *testing.T) {
	v := ver(1, 1, 1)
	for name, l := range map[string][]api.Entry{
		"nil":                 nil,
		"none":                {},
		"all":                 all(),
		"all but the first":   without(0),
		"all but the last":    without(63),
		"the first, the last": {dead(0, v), dead(63, v)},
		"versions fall":       {dead(1, ver(9, 1, 9)), dead(2, ver(1, 1, 1))},
		"versions alike":      {dead(1, v), dead(2, v)},
	} {
		if !item.Right(l) {
			t.Errorf("%s: not right", name)
		}
	}
	for name, l := range wrongLists() {
		if item.Right(l) {
			t.Errorf("%s: right", name)
		}
	}
}

// P2.1: of each kind, also such as there are not, each class and each filter.
func TestIn(t *testing.T) {
	for _, kind := range []int{api.Real, api.Ghost, api.Dead, 0, 4, -1, 259} {
		for class := range 256 {
			for filter := range 256 {
				e := api.Entry{ID: 200, Kind: kind, Class: uint8(class), Value: 5}
				want := kind == api.Dead
				for bit := range 8 {
					if class == bit && filter/(1<<bit)%2 == 1 {
						want = true
					}
				}
				if item.In(e, uint8(filter)) != want {
					t.Fatalf("kind %v, class %v, filter %08b: not %v", kind, class, filter, want)
				}
			}
		}
	}
}

// P2.1: what is Real fades, right or not; all else is as it was.
func TestFade(t *testing.T) {
	v := ver(4, 3, 2)
	for _, c := range []struct{ e, want api.Entry }{
		{valued(5, v, 0), ghost(5, v, 0)},
		{valued(0, v, 7), ghost(0, v, 7)},
		{valued(63, ver(most, 7, most), most), ghost(63, ver(most, 7, most), 7)},
		{api.Entry{ID: 64, Kind: api.Real, Class: 9, Value: 3}, api.Entry{ID: 64, Kind: api.Ghost, Class: 9}},
		{api.Entry{ID: 255, Ver: ver(0, 255, 0), Kind: api.Real, Class: 255}, api.Entry{ID: 255, Ver: ver(0, 255, 0), Kind: api.Ghost, Class: 255}},
	} {
		if got := item.Fade(c.e); got != c.want {
			t.Errorf("%v: %v, not %v", c.e, got, c.want)
		}
	}
	for _, e := range []api.Entry{
		{}, ghost(5, v, 7), ghost(5, v, 200), dead(5, v),
		{ID: 9, Ver: v, Kind: api.Ghost, Class: 3, Value: 8}, {ID: 9, Ver: v, Kind: api.Dead, Class: 3, Value: 8},
		{ID: 9, Ver: v, Kind: 4, Class: 3, Value: 8}, {ID: 9, Ver: v, Kind: -1, Class: 3, Value: 8}, {ID: 255, Ver: v, Class: 3, Value: 8},
	} {
		if got := item.Fade(e); got != e {
			t.Errorf("%v: %v", e, got)
		}
	}
}

// P2.2: each item of a right list, and what isn't in it.
func TestFind(t *testing.T) {
	for id := range uint8(api.MaxItems) {
		if e, ok := item.Find(all(), id); !ok || e != all()[id] {
			t.Errorf("%v: %v %v", id, e, ok)
		}
		if e, ok := item.Find(without(id), id); ok || e != (api.Entry{}) {
			t.Errorf("%v, which isn't there: %v %v", id, e, ok)
		}
	}
	for _, id := range []uint8{64, 255} {
		if e, ok := item.Find(all(), id); ok || e != (api.Entry{}) {
			t.Errorf("%v: %v %v", id, e, ok)
		}
	}
	for _, l := range [][]api.Entry{nil, {}} {
		if e, ok := item.Find(l, 0); ok || e != (api.Entry{}) {
			t.Errorf("of none: %v %v", e, ok)
		}
	}
}

// P2.2: the first of that ID, of any list.
func TestFindOfAnyList(t *testing.T) {
	v := ver(1, 1, 1)
	lists := wrongLists()
	turned := all()
	slices.Reverse(turned)
	lists["all, turned about"] = turned
	lists["twice, the lesser one first"] = []api.Entry{valued(9, v, 1), valued(4, v, 1), valued(4, ver(2, 1, 2), 2), valued(1, v, 1)}
	lists["more than 256 entries"] = slices.Concat(slices.Repeat([]api.Entry{dead(7, v)}, 300), []api.Entry{dead(3, v), dead(255, v)})
	lists["wrong entries"] = []api.Entry{{ID: 255, Kind: 9}, {ID: 64, Class: 99}, {}, {ID: 64, Class: 98}}
	for name, l := range lists {
		for id := range 256 {
			at := slices.IndexFunc(l, func(e api.Entry) bool { return int(e.ID) == id })
			e, ok := item.Find(l, uint8(id))
			if ok != (at >= 0) || ok && e != l[at] || !ok && e != (api.Entry{}) {
				t.Errorf("%s: %v: %v %v", name, id, e, ok)
			}
		}
	}
}

// P2.2: an item that isn't there yet comes to its place, wherever that is.
func TestTakeOfANewItem(t *testing.T) {
	for id := range uint8(api.MaxItems) {
		if l, e := item.Take(without(id), all()[id]); e != nil || !slices.Equal(l, all()) {
			t.Errorf("%v: %v %v", id, l, e)
		}
		for _, none := range [][]api.Entry{nil, {}} {
			if l, e := item.Take(none, all()[id]); e != nil || !slices.Equal(l, all()[id:id+1]) {
				t.Errorf("%v, the first: %v %v", id, l, e)
			}
		}
	}
}

// P2.2: of every two entries of one item, wherever it is among the others.
func TestTakeOfAnItemThatIsHeld(t *testing.T) {
	for _, id := range []uint8{0, 1, 31, 32, 62, 63} {
		var forms []api.Entry
		for _, v := range risingVers() {
			if item.RightVer(v) {
				forms = append(forms, ghost(id, v, 3), ghost(id, v, 4), valued(id, v, 3), valued(id, v, 12), dead(id, v))
			}
		}
		for i, held := range forms {
			for j, e := range forms {
				// Five forms a version, and the first two of these are Ghosts.
				after := i/5 < j/5 || i/5 == j/5 && i%5 < 2 && j%5 >= 2
				want := all()
				want[id] = held
				given := slices.Clone(want)
				if after {
					want[id] = e
				}
				if got, err := item.Take(given, e); err != nil || !slices.Equal(got, want) {
					t.Fatalf("%v into %v: %v %v", e, held, got, err)
				}
			}
		}
	}
}

// P2.2: the document's example.
func TestTakeOfTheGreaterReplica(t *testing.T) {
	of0, of1 := valued(3, ver(2, 0, 9), 5), valued(3, ver(2, 1, 1), 6)
	for _, l := range [][]api.Entry{{of0, of1}, {of1, of0}} {
		held, e := item.Take(l[:1], l[1])
		if e != nil || !slices.Equal(held, []api.Entry{of1}) {
			t.Errorf("%v", held)
		}
	}
}

// P2.2: Wrong.
func TestTakeOfWrongs(t *testing.T) {
	good := valued(40, ver(9, 1, 9), 1)
	refused := func(name string, l []api.Entry, e api.Entry) {
		t.Helper()
		if got, err := item.Take(l, e); len(got) != 0 || !errors.Is(err, api.Wrong) {
			t.Errorf("%s: %v %v", name, got, err)
		}
	}
	for name, e := range wrongEntries() {
		refused(name+", taken into none", nil, e)
		refused(name+", taken into all", all(), e)
		refused(name+", held", []api.Entry{e}, good)
		refused(name+", held and taken", []api.Entry{e}, e)
		refused(name+", held at last", []api.Entry{dead(0, ver(1, 1, 1)), good, e}, good)
	}
	for name, l := range wrongLists() {
		refused(name, l, good)
		refused(name+", and the entry", l, api.Entry{})
	}
}

// allTaken takes entries one by one.
func allTaken(t *testing.T, l []api.Entry) []api.Entry {
	t.Helper()
	var held []api.Entry
	for _, e := range l {
		var err error
		if held, err = item.Take(held, e); err != nil || !item.Right(held) {
			t.Fatalf("%v: %v %v", e, held, err)
		}
	}
	return held
}

// orders calls do with every order of a list.
func orders(l []api.Entry, do func([]api.Entry)) {
	var from func(k int)
	from = func(k int) {
		if k == len(l) {
			do(l)
			return
		}
		for i := k; i < len(l); i++ {
			l[k], l[i] = l[i], l[k]
			from(k + 1)
			l[k], l[i] = l[i], l[k]
		}
	}
	from(0)
}

// P2.3: every order, of versions that differ in each way, and of one version as a Ghost and as none; and each twice.
func TestTakeInAnyOrder(t *testing.T) {
	v := ver(2, 1, 2)
	for name, c := range map[string]struct{ l, want []api.Entry }{
		"by Stamp, Rep, Seq": {
			[]api.Entry{valued(1, ver(1, 7, 9), 1), valued(1, ver(2, 0, 9), 2), valued(1, ver(2, 1, 1), 3), valued(1, v, 4), dead(2, v), valued(2, ver(3, 0, 1), 5)},
			[]api.Entry{valued(1, v, 4), valued(2, ver(3, 0, 1), 5)},
		},
		"Ghost and Real": {
			[]api.Entry{ghost(1, v, 4), valued(1, v, 4), ghost(1, v, 4), valued(1, ver(2, 1, 1), 9), ghost(63, v, 1), valued(0, v, 1)},
			[]api.Entry{valued(0, v, 1), valued(1, v, 4), ghost(63, v, 1)},
		},
		"Ghost and Dead": {
			[]api.Entry{ghost(1, v, 4), dead(1, v), valued(1, ver(1, 7, 9), 4), ghost(0, v, 4), dead(0, ver(2, 1, 3)), ghost(0, ver(2, 1, 3), 1)},
			[]api.Entry{dead(0, ver(2, 1, 3)), dead(1, v)},
		},
		"a greater Ghost": {
			[]api.Entry{valued(1, v, 4), dead(1, v), ghost(1, ver(2, 1, 3), 4), ghost(1, ver(2, 0, 3), 4)},
			[]api.Entry{ghost(1, ver(2, 1, 3), 4)},
		},
	} {
		orders(c.l, func(l []api.Entry) {
			for _, often := range [][]api.Entry{l, slices.Concat(l, l), slices.Concat(l, c.l[:1], l[2:])} {
				if got := allTaken(t, often); !slices.Equal(got, c.want) {
					t.Fatalf("%s: %v: %v", name, often, got)
				}
			}
		})
	}
}

// P2.3: where the same version is told as several, that aren't Ghosts, it is that version in any order.
func TestTakeOfOneVersionToldInSeveralWays(t *testing.T) {
	v := ver(2, 1, 2)
	orders([]api.Entry{valued(1, v, 4), valued(1, v, 5), dead(1, v), ghost(1, v, 7), dead(1, ver(1, 7, 2))}, func(l []api.Entry) {
		got := allTaken(t, slices.Concat(l, l))
		if len(got) != 1 || got[0].Ver != v || got[0].Kind == api.Ghost {
			t.Fatalf("%v: %v", l, got)
		}
	})
}

// Rule 3: what is handed in stays, its spare room too, and what is answered isn't bound to it.
func TestArgumentsStay(t *testing.T) {
	given := all()
	for name, call := range map[string]func() ([]api.Entry, error){
		"a new one at last":     func() ([]api.Entry, error) { return item.Take(given[:20], valued(63, ver(1, 1, 1), 1)) },
		"a new one in front":    func() ([]api.Entry, error) { return item.Take(given[1:20], dead(0, ver(1, 1, 1))) },
		"a new one to none":     func() ([]api.Entry, error) { return item.Take(given[:0], dead(9, ver(1, 1, 1))) },
		"instead":               func() ([]api.Entry, error) { return item.Take(given[:20], dead(9, ver(most, 1, 1))) },
		"nothing changes":       func() ([]api.Entry, error) { return item.Take(given[:20], dead(9, ver(1, 0, 1))) },
		"nothing changes, full": func() ([]api.Entry, error) { return item.Take(given, given[9]) },
	} {
		l, e := call()
		if e != nil {
			t.Errorf("%s: %v", name, e)
		}
		for i := range l[:cap(l)] {
			l[:cap(l)][i] = api.Entry{ID: 255}
		}
		if !slices.Equal(given, all()) {
			t.Fatalf("%s: %v", name, given)
		}
	}
}
