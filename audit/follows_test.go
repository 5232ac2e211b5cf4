package audit_test

import (
	"testing"

	"tidings/api"
	"tidings/audit"
	"tidings/bag"
	"tidings/item"
	"tidings/script"
	"tidings/source"
	"tidings/target"
)

// This file has what follows, over scripts that are drawn: P10.3 and P10.4; and of the whole P1 to P3.

// P10.3: a world that came of a script is never wrong, at any act.
func TestScriptsAreNeverWrong(t *testing.T) {
	scripts(t, 150, func(_ api.World, a api.Act, out api.World, _ api.Mark) {
		if e := audit.Check(out); e != nil {
			t.Fatalf("behind %+v: %v: %+v", a, e, out)
		}
		if at, code := meantWrong(out); code != 0 {
			t.Fatalf("behind %+v: %v at %v: %+v", a, code, at, out)
		}
	})
}

// P1: any bytes run, act by act; what each replica knows then is a set of versions that were made, each once.
func TestAnyBytes(t *testing.T) {
	for seed := range numbers(300) {
		s := seed
		b := make([]byte, 1+s.below(chosen(&s, 20, 200, 2800)))
		for i := range b {
			b[i] = uint8(s.below(chosen(&s, 3, 11, 256)))
		}
		filters, l, e := script.Read(b)
		if e != nil {
			t.Fatal(e)
		}
		w := newWorld(t, filters...)
		for _, a := range l {
			w, _ = bag.Do(w, a)
			isRight(t, "any bytes", w)
			knowsMade(t, w)
		}
		if out, _, e := script.Run(b); e != nil || !alike(out, w) {
			t.Errorf("%v: %v: %s", b, e, difference(out, w))
		}
	}
}

// knowsMade fails unless what each replica knows are versions that were made, and each of a replica's versions was made once.
func knowsMade(t *testing.T, w api.World) {
	t.Helper()
	made := map[[2]uint32]int{}
	for _, e := range w.Made {
		made[[2]uint32{uint32(e.Ver.Rep), e.Ver.Seq}]++
	}
	for _, r := range w.Reps {
		for _, x := range r.Know {
			// No more than were made are gone through, also if a run tells too many.
			for n := uint64(x.From); n <= uint64(x.To); n++ {
				if made[[2]uint32{uint32(x.Rep), uint32(n)}] != 1 {
					t.Fatalf("%v knows %v: %v was made %v times", r.Rep, r.Know, n, made[[2]uint32{uint32(x.Rep), uint32(n)}])
				}
			}
		}
		for n := uint32(1); n <= r.Seq; n++ {
			if made[[2]uint32{uint32(r.Rep), n}] != 1 {
				t.Fatalf("%v wrote %v, of which %v was made %v times", r.Rep, r.Seq, n, made[[2]uint32{uint32(r.Rep), n}])
			}
		}
	}
	if len(made) != len(w.Made) {
		t.Fatalf("%v were made, of %v versions", len(w.Made), len(made))
	}
}

// P1: what each replica knows is a set of versions that were made, at any act.
func TestKnownWereMade(t *testing.T) {
	scripts(t, 60, func(_ api.World, _ api.Act, out api.World, _ api.Mark) { knowsMade(t, out) })
}

// P2: who knows of a version holds that, or a greater one, of the item; what it knows in its filter it reads.
func TestNoFalseClaim(t *testing.T) {
	someWorlds(t, 100, 3, func(w api.World) {
		for _, r := range w.Reps {
			for _, e := range w.Made {
				if !meantKnown(r, e.Ver) {
					continue
				}
				held, found := item.Find(r.Held, e.ID)
				if !found || meantLess(held.Ver, e.Ver) {
					t.Fatalf("%v knows %+v, and holds %+v", r.Rep, e, held)
				}
				if held.Ver == e.Ver && item.In(e, r.Filter) {
					readsMade(t, w, r.Rep, e)
				}
			}
		}
	})
}

// readsMade fails unless a replica reads of an item what was made.
func readsMade(t *testing.T, w api.World, a uint8, e api.Entry) {
	t.Helper()
	want := api.Mark{Value: e.Value}
	if e.Kind == api.Dead {
		want = api.Mark{Err: api.Nothing}
	}
	if held, _ := item.Find(w.Reps[a].Held, e.ID); held != e {
		t.Fatalf("%v holds %+v, not %+v", a, held, e)
	}
	if _, m := bag.Do(w, get(a, e.ID)); m != want {
		t.Fatalf("%v reads %+v, not %+v", a, m, e)
	}
}

// madeOf gives the first entry of Made that is of an entry's item and version.
func madeOf(w api.World, of api.Entry) api.Entry {
	for _, e := range w.Made {
		if e.ID == of.ID && e.Ver == of.Ver {
			return e
		}
	}
	return api.Entry{}
}

// greatest gives what is held of an item by two, by which the version is the greater one; whether there is any.
func greatest(a, b api.Replica, id uint8) (api.Ver, bool) {
	of, inA := item.Find(a.Held, id)
	is, inB := item.Find(b.Held, id)
	if !inA || inB && meantLess(of.Ver, is.Ver) {
		return is.Ver, inB
	}
	return of.Ver, inA
}

// batches gives how many batches of 4 there are in what is due for a fetch, one at least.
func batches(t *testing.T, w api.World, to, from uint8) int {
	t.Helper()
	_, pull, e := target.Begin(w.Reps[to], from)
	if e != nil {
		t.Fatal(e)
	}
	l, e := source.Due(w.Reps[from], pull)
	if e != nil {
		t.Fatal(e)
	}
	return max(1, (len(l)+3)/4)
}

// P10.2: fetches in worlds behind scripts, held against a second reading, and against the acts one by one.
// P10.4, P3: how many deliveries one takes, and what the target holds, knows and reads behind it.
func TestFetchesBehindScripts(t *testing.T) {
	wider, longest, wanted := 0, 0, 0
	someWorlds(t, 120, 20, func(w api.World) {
		pairs(w, func(to, from uint8) {
			want, n, m := meantFetch(w, to, from)
			fetches(t, "behind a script", w, to, from, want, n, m.Err)
			if m.Err != 0 {
				return
			}
			out, n, _ := audit.Fetch(w, to, from)
			isRight(t, "behind a fetch", out)
			if most := 2 * batches(t, w, to, from); n < 1 || n > most {
				t.Errorf("%v from %v: %v deliveries, more than %v", to, from, n, most)
			}
			longest = max(longest, n)
			holdsGreatest(t, w, out, to, from)
			if w.Reps[to].Filter&^w.Reps[from].Filter == 0 {
				wider++
				wanted += broughtUp(t, w, out, to, from)
			}
		})
	})
	if wider < 1000 || longest < 12 || wanted < 100 {
		t.Errorf("%v from a wider one, %v deliveries at most, %v wanted", wider, longest, wanted)
	}
}

// holdsGreatest fails unless behind a fetch the target holds, of each item, the greatest version that it and the source held.
func holdsGreatest(t *testing.T, w, out api.World, to, from uint8) {
	t.Helper()
	for id := range uint8(api.MaxItems) {
		want, any := greatest(w.Reps[to], w.Reps[from], id)
		held, found := item.Find(out.Reps[to].Held, id)
		if found != any || held.Ver != want {
			t.Errorf("%v from %v holds %+v, not %+v", to, from, held, want)
		}
	}
}

// broughtUp fails unless behind a fetch, from one whose filter has all that the target's has, the target knows all that both knew, and reads, in its filter, what it holds and one of both knew. It gives how many entries the target still wants: those that neither knew.
func broughtUp(t *testing.T, w, out api.World, to, from uint8) int {
	t.Helper()
	wanted := 0
	r := out.Reps[to]
	for _, e := range w.Made {
		if (meantKnown(w.Reps[to], e.Ver) || meantKnown(w.Reps[from], e.Ver)) && !meantKnown(r, e.Ver) {
			t.Fatalf("%v from %v: %v isn't known", to, from, e.Ver)
		}
	}
	for _, held := range r.Held {
		e := madeOf(w, held)
		switch knew := meantKnown(w.Reps[to], e.Ver) || meantKnown(w.Reps[from], e.Ver); {
		case !item.In(e, r.Filter):
			if held != item.Fade(e) {
				t.Fatalf("%v from %v holds %+v of %+v", to, from, held, e)
			}
		case knew:
			readsMade(t, out, to, e)
		default:
			wanted++
		}
	}
	return wanted
}
