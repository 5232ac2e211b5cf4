package know_test

import (
	"errors"
	"slices"
	"testing"

	"tidings/api"
	"tidings/know"
)

// pair is a version as a set of versions has it.
type pair struct {
	rep uint8
	n   uint32
}

// run makes a run of a replica.
func run(rep uint8, from, to uint32) api.Run { return api.Run{Rep: rep, From: from, To: to} }

// singles makes count runs of the replica 0, of one number each, with a gap of two numbers behind each.
func singles(count int) []api.Run {
	var k []api.Run
	for i := range uint32(count) {
		k = append(k, run(0, 3*i+1, 3*i+1))
	}
	return k
}

// setOf makes the runs of pairs that rise, one pair at a time, by the document's words alone.
func setOf(l []pair) []api.Run {
	var k []api.Run
	for _, p := range l {
		last := len(k) - 1
		if last >= 0 && k[last].Rep == p.rep && uint64(k[last].To)+1 == uint64(p.n) {
			k[last].To = p.n
			continue
		}
		k = append(k, run(p.rep, p.n, p.n))
	}
	return k
}

// universe is few pairs at every edge: the numbers 1 and MaxNumber, neighbours and gaps, the first and the last replica.
func universe() []pair {
	return []pair{
		{0, 1}, {0, 2}, {0, 3}, {0, 5},
		{6, api.MaxNumber},
		{7, 1}, {7, api.MaxNumber - 2}, {7, api.MaxNumber - 1}, {7, api.MaxNumber},
	}
}

// chosen gives those pairs of the universe whose bit is set.
func chosen(bits int) []pair {
	var l []pair
	for i, p := range universe() {
		if bits>>i&1 == 1 {
			l = append(l, p)
		}
	}
	return l
}

// wrongRuns is a list for each way in which runs may fail to be right.
func wrongRuns() map[string][]api.Run {
	return map[string][]api.Run{
		"Rep 8":                   {run(8, 1, 1)},
		"Rep 255":                 {run(255, 1, 1)},
		"Rep 8 at last":           {run(7, 1, 1), run(8, 1, 1)},
		"From 0":                  {run(0, 0, 1)},
		"From and To 0":           {run(0, 0, 0)},
		"From 0 at last":          {run(0, 1, 1), run(1, 0, 4)},
		"To below From":           {run(0, 2, 1)},
		"To 0":                    {run(3, 1, 0)},
		"Reps fall":               {run(1, 1, 1), run(0, 5, 5)},
		"Froms fall":              {run(0, 5, 6), run(0, 1, 2)},
		"Froms fall behind most":  {run(0, 5, api.MaxNumber), run(0, 1, 2)},
		"the same twice":          {run(2, 4, 4), run(2, 4, 4)},
		"overlap":                 {run(0, 1, 5), run(0, 4, 9)},
		"overlap by one":          {run(0, 1, 5), run(0, 5, 9)},
		"one within another":      {run(0, 1, 9), run(0, 4, 5)},
		"touch":                   {run(0, 1, 2), run(0, 3, 4)},
		"touch at last":           {run(0, 1, 1), run(0, 3, 3), run(0, 4, 4)},
		"touch at most":           {run(7, 1, api.MaxNumber-1), run(7, api.MaxNumber, api.MaxNumber)},
		"one more than MaxRuns":   singles(api.MaxRuns + 1),
		"many more than MaxRuns":  singles(10 * api.MaxRuns),
		"wrong and many too many": slices.Repeat([]api.Run{run(0, 1, 1)}, 1000),
	}
}

// P1.1: what is right.
func TestRight(t *testing.T) {
	for name, k := range map[string][]api.Run{
		"nil":                    nil,
		"no runs":                {},
		"number 1":               {run(0, 1, 1)},
		"MaxNumber":              {run(0, api.MaxNumber, api.MaxNumber)},
		"all numbers":            {run(7, 1, api.MaxNumber)},
		"a gap of one":           {run(0, 1, 2), run(0, 4, 5)},
		"a gap of one at most":   {run(0, 1, api.MaxNumber-2), run(0, api.MaxNumber, api.MaxNumber)},
		"of other Reps, alike":   {run(0, 1, 5), run(1, 1, 5)},
		"of other Reps, falling": {run(0, 7, api.MaxNumber), run(7, 1, 1)},
		"of other Reps, next":    {run(3, 1, 2), run(4, 3, 4)},
		"MaxRuns":                singles(api.MaxRuns),
	} {
		if !know.Right(k) {
			t.Errorf("%s: not right: %v", name, k)
		}
	}
	for name, k := range wrongRuns() {
		if know.Right(k) {
			t.Errorf("%s: right: %v", name, k)
		}
	}
}

// P1.1: just the pairs of the set are in it.
func TestHas(t *testing.T) {
	k := []api.Run{run(0, 1, 1), run(0, 3, 5), run(7, api.MaxNumber-1, api.MaxNumber)}
	for _, p := range []pair{{0, 1}, {0, 3}, {0, 4}, {0, 5}, {7, api.MaxNumber - 1}, {7, api.MaxNumber}} {
		if !know.Has(k, p.rep, p.n) {
			t.Errorf("%v isn't in it", p)
		}
	}
	for _, p := range []pair{{0, 0}, {0, 2}, {0, 6}, {0, api.MaxNumber}, {1, 1}, {6, api.MaxNumber}, {7, 1}, {7, api.MaxNumber - 2}, {8, 1}, {255, 1}, {7, 0}} {
		if know.Has(k, p.rep, p.n) {
			t.Errorf("%v is in it", p)
		}
	}
	if know.Has(nil, 0, 1) || know.Has([]api.Run{}, 0, 1) {
		t.Error("no runs have a pair")
	}
	full := singles(api.MaxRuns)
	if last := full[api.MaxRuns-1].To; !know.Has(full, 0, last) || know.Has(full, 0, last-1) {
		t.Error("MaxRuns runs: the last one")
	}
}

// P1.1: what isn't right has no pair, not even those that its runs name.
func TestHasOfWrongRuns(t *testing.T) {
	for name, k := range wrongRuns() {
		for _, r := range k {
			if know.Has(k, r.Rep, r.From) || know.Has(k, r.Rep, r.To) {
				t.Errorf("%s: has a pair", name)
				break
			}
		}
	}
}

// P1.2, P1.4: with each pair, and without it, of every set of few pairs at the edges.
func TestAddAndDropOfEverySet(t *testing.T) {
	for bits := range 1 << len(universe()) {
		k := setOf(chosen(bits))
		for i, p := range universe() {
			added, e := know.Add(k, p.rep, p.n)
			want := setOf(chosen(bits | 1<<i))
			if e != nil || !slices.Equal(added, want) || !know.Right(added) {
				t.Fatalf("Add %v to %v: %v %v, not %v", p, k, added, e, want)
			}
			dropped, e := know.Drop(k, p.rep, p.n)
			want = setOf(chosen(bits &^ (1 << i)))
			if e != nil || !slices.Equal(dropped, want) || !know.Right(dropped) {
				t.Fatalf("Drop %v from %v: %v %v, not %v", p, k, dropped, e, want)
			}
		}
	}
}

// P1.2: the ways in which a run meets a pair.
func TestAddAndDrop(t *testing.T) {
	const most = api.MaxNumber
	for name, c := range map[string]struct {
		k         []api.Run
		p         pair
		add, drop []api.Run
	}{
		"the document's example": {[]api.Run{run(0, 1, 1), run(0, 3, 5)}, pair{0, 2}, []api.Run{run(0, 1, 5)}, []api.Run{run(0, 1, 1), run(0, 3, 5)}},
		"to none":                {nil, pair{7, most}, []api.Run{run(7, most, most)}, nil},
		"the only one":           {[]api.Run{run(3, 4, 4)}, pair{3, 4}, []api.Run{run(3, 4, 4)}, nil},
		"within":                 {[]api.Run{run(3, 4, 8)}, pair{3, 6}, []api.Run{run(3, 4, 8)}, []api.Run{run(3, 4, 5), run(3, 7, 8)}},
		"the first number":       {[]api.Run{run(0, 1, most)}, pair{0, 1}, []api.Run{run(0, 1, most)}, []api.Run{run(0, 2, most)}},
		"the last number":        {[]api.Run{run(0, 1, most)}, pair{0, most}, []api.Run{run(0, 1, most)}, []api.Run{run(0, 1, most-1)}},
		"close ahead":            {[]api.Run{run(2, 4, 5)}, pair{2, 3}, []api.Run{run(2, 3, 5)}, []api.Run{run(2, 4, 5)}},
		"far ahead":              {[]api.Run{run(2, 4, 5)}, pair{2, 2}, []api.Run{run(2, 2, 2), run(2, 4, 5)}, []api.Run{run(2, 4, 5)}},
		"close behind":           {[]api.Run{run(2, 4, 5)}, pair{2, 6}, []api.Run{run(2, 4, 6)}, []api.Run{run(2, 4, 5)}},
		"far behind":             {[]api.Run{run(2, 4, 5)}, pair{2, 7}, []api.Run{run(2, 4, 5), run(2, 7, 7)}, []api.Run{run(2, 4, 5)}},
		"of a lesser Rep":        {[]api.Run{run(2, 4, 5)}, pair{1, 5}, []api.Run{run(1, 5, 5), run(2, 4, 5)}, []api.Run{run(2, 4, 5)}},
		"of a greater Rep":       {[]api.Run{run(2, 4, 5)}, pair{3, 4}, []api.Run{run(2, 4, 5), run(3, 4, 4)}, []api.Run{run(2, 4, 5)}},
		"no wrap to 1":           {[]api.Run{run(2, 2, 2), run(2, most, most)}, pair{2, 1}, []api.Run{run(2, 1, 2), run(2, most, most)}, []api.Run{run(2, 2, 2), run(2, most, most)}},
	} {
		if got, e := know.Add(c.k, c.p.rep, c.p.n); e != nil || !slices.Equal(got, c.add) {
			t.Errorf("%s: Add: %v %v", name, got, e)
		}
		if got, e := know.Drop(c.k, c.p.rep, c.p.n); e != nil || !slices.Equal(got, c.drop) {
			t.Errorf("%s: Drop: %v %v", name, got, e)
		}
	}
}

// refused fails unless a call told no runs and that code.
func refused(t *testing.T, name string, want api.Code) func(k []api.Run, e error) {
	return func(k []api.Run, e error) {
		t.Helper()
		if len(k) != 0 || !errors.Is(e, want) {
			t.Errorf("%s: %v %v, not %v", name, k, e, want)
		}
	}
}

// P1.2: Wrong.
func TestAddAndDropOfWrongs(t *testing.T) {
	for name, k := range wrongRuns() {
		refused(t, name+": Add", api.Wrong)(know.Add(k, 0, 1))
		refused(t, name+": Drop", api.Wrong)(know.Drop(k, 0, 1))
	}
	// Wrong is named ahead of TooMany, so that a full set tells it, too.
	for name, k := range map[string][]api.Run{"none": nil, "one": {run(0, 1, 4)}, "full": singles(api.MaxRuns)} {
		for _, p := range []pair{{8, 1}, {255, 1}, {0, 0}, {7, 0}, {8, 0}} {
			refused(t, name+": Add", api.Wrong)(know.Add(k, p.rep, p.n))
			refused(t, name+": Drop", api.Wrong)(know.Drop(k, p.rep, p.n))
		}
	}
}

// P1.2: TooMany, and what a full set still takes.
func TestAddAtTheLimit(t *testing.T) {
	full := singles(api.MaxRuns)
	end := full[api.MaxRuns-1].To
	refused(t, "another Rep", api.TooMany)(know.Add(full, 1, 1))
	refused(t, "a gap behind", api.TooMany)(know.Add(full, 0, end+2))
	for name, c := range map[string]struct {
		p     pair
		count int
	}{
		"there already": {pair{0, 4}, api.MaxRuns},
		"touching":      {pair{0, end + 1}, api.MaxRuns},
	} {
		if k, e := know.Add(full, c.p.rep, c.p.n); e != nil || len(k) != c.count || !know.Has(k, c.p.rep, c.p.n) {
			t.Errorf("%s: %v %v", name, k, e)
		}
	}
	closer := slices.Clone(full)
	closer[0].To = 2
	if k, e := know.Add(closer, 0, 3); e != nil || len(k) != api.MaxRuns-1 || k[0] != run(0, 1, 4) {
		t.Errorf("joining two: %v %v", k, e)
	}
	if k, e := know.Add(singles(api.MaxRuns-1), 7, 1); e != nil || len(k) != api.MaxRuns {
		t.Errorf("the last run that may be: %v %v", k, e)
	}
}

// P1.2: TooMany, and what goes out of a full set.
func TestDropAtTheLimit(t *testing.T) {
	full := singles(api.MaxRuns)
	last := &full[api.MaxRuns-1]
	last.To += 2
	refused(t, "in the midst of a run", api.TooMany)(know.Drop(full, 0, last.From+1))
	for name, c := range map[string]struct {
		n     uint32
		count int
	}{
		"a run's begin": {last.From, api.MaxRuns},
		"a run's end":   {last.To, api.MaxRuns},
		"a whole run":   {1, api.MaxRuns - 1},
		"in no run":     {2, api.MaxRuns},
	} {
		if k, e := know.Drop(full, 0, c.n); e != nil || len(k) != c.count || know.Has(k, 0, c.n) {
			t.Errorf("%s: %v %v", name, k, e)
		}
	}
	if k, e := know.Drop(full[1:], 0, last.From+1); e != nil || len(k) != api.MaxRuns {
		t.Errorf("the last split that may be: %v %v", k, e)
	}
}

// P1.3, P1.4: of every two sets of few pairs at the edges.
func TestUnionOfEveryTwoSets(t *testing.T) {
	for a := range 1 << len(universe()) {
		for b := range 1 << len(universe()) {
			got, e := know.Union(setOf(chosen(a)), setOf(chosen(b)))
			if want := setOf(chosen(a | b)); e != nil || !slices.Equal(got, want) {
				t.Fatalf("%v and %v: %v %v, not %v", setOf(chosen(a)), setOf(chosen(b)), got, e, want)
			}
		}
	}
}

// P1.3: long runs over one another.
func TestUnion(t *testing.T) {
	const most = api.MaxNumber
	for name, c := range map[string]struct{ a, b, want []api.Run }{
		"none":             {nil, []api.Run{}, nil},
		"overlap":          {[]api.Run{run(0, 1, 3), run(0, 8, 9)}, []api.Run{run(0, 2, 5), run(0, 7, 7), run(0, 20, 20)}, []api.Run{run(0, 1, 5), run(0, 7, 9), run(0, 20, 20)}},
		"within":           {[]api.Run{run(4, 1, 9)}, []api.Run{run(4, 2, 3), run(4, 5, 9)}, []api.Run{run(4, 1, 9)}},
		"the same begin":   {[]api.Run{run(4, 2, 9)}, []api.Run{run(4, 2, 3)}, []api.Run{run(4, 2, 9)}},
		"touch":            {[]api.Run{run(4, 1, 2)}, []api.Run{run(4, 3, 4)}, []api.Run{run(4, 1, 4)}},
		"up to most":       {[]api.Run{run(7, 5, most)}, []api.Run{run(7, 1, 3), run(7, most, most)}, []api.Run{run(7, 1, 3), run(7, 5, most)}},
		"of Reps in turns": {[]api.Run{run(1, 1, 2), run(3, 1, 2)}, []api.Run{run(0, 1, 2), run(2, 3, 4), run(7, 1, 1)}, []api.Run{run(0, 1, 2), run(1, 1, 2), run(2, 3, 4), run(3, 1, 2), run(7, 1, 1)}},
		"itself":           {singles(api.MaxRuns), singles(api.MaxRuns), singles(api.MaxRuns)},
		"all over full":    {singles(api.MaxRuns), []api.Run{run(0, 1, most)}, []api.Run{run(0, 1, most)}},
	} {
		for _, turn := range [][2][]api.Run{{c.a, c.b}, {c.b, c.a}} {
			if got, e := know.Union(turn[0], turn[1]); e != nil || !slices.Equal(got, c.want) {
				t.Errorf("%s: %v %v", name, got, e)
			}
		}
	}
}

// P1.3: Wrong and TooMany.
func TestUnionOfWrongsAndTooMany(t *testing.T) {
	for name, k := range wrongRuns() {
		refused(t, name+" first", api.Wrong)(know.Union(k, nil))
		refused(t, name+" second", api.Wrong)(know.Union(nil, k))
		refused(t, name+" with full", api.Wrong)(know.Union(singles(api.MaxRuns), k))
	}
	full := singles(api.MaxRuns)
	var between []api.Run
	for _, r := range full {
		between = append(between, run(0, r.From+1, r.To+1))
	}
	if k, e := know.Union(full, between); e != nil || len(k) != api.MaxRuns || k[0] != run(0, 1, 2) {
		t.Errorf("128 runs that make 64: %v %v", k, e)
	}
	refused(t, "one more", api.TooMany)(know.Union(full, []api.Run{run(5, 1, 1)}))
	refused(t, "one more, turned", api.TooMany)(know.Union([]api.Run{run(5, 1, 1)}, full))
	if k, e := know.Union(full[1:], []api.Run{run(5, 1, 1)}); e != nil || len(k) != api.MaxRuns {
		t.Errorf("the last run that may be: %v %v", k, e)
	}
}

// Rule 3: what is handed in stays, its spare room too, and what is answered isn't bound to it.
func TestArgumentsStay(t *testing.T) {
	a := []api.Run{run(0, 1, 1), run(0, 3, 5), run(7, 9, 9), run(7, 90, 91)}
	b := []api.Run{run(0, 2, 2), run(1, 3, 5), run(6, 9, 9), run(6, 90, 91)}
	wasA, wasB := slices.Clone(a), slices.Clone(b)
	for name, call := range map[string]func() ([]api.Run, error){
		"Add":             func() ([]api.Run, error) { return know.Add(a[:2], 0, 9) },
		"Add in it":       func() ([]api.Run, error) { return know.Add(a[:2], 0, 4) },
		"Drop":            func() ([]api.Run, error) { return know.Drop(a[:2], 0, 4) },
		"Drop not in it":  func() ([]api.Run, error) { return know.Drop(a[:2], 5, 5) },
		"Union":           func() ([]api.Run, error) { return know.Union(a[:2], b[:2]) },
		"Union with none": func() ([]api.Run, error) { return know.Union(a[:2], nil) },
	} {
		k, e := call()
		if e != nil {
			t.Errorf("%s: %v", name, e)
		}
		for i := range k[:cap(k)] {
			k[:cap(k)][i] = run(255, 255, 255)
		}
		if !slices.Equal(a, wasA) || !slices.Equal(b, wasB) {
			t.Fatalf("%s: %v %v", name, a, b)
		}
	}
}
