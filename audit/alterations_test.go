package audit_test

import (
	"slices"
	"testing"

	"tidings/api"
	"tidings/bag"
	"tidings/item"
	"tidings/know"
)

// This file has a world in which all know all, and alterations of it, by which something is wrong, or just isn't.

// ring is how many replicas there are in a world of all.
const ring = 4

// without gives a filter without a class, and without the class 7.
func without(class uint8) uint8 { return 127 &^ (1 << class) }

// Of what each replica has written in a world of all: the items, by the replica.
func kept(rep uint8) uint8    { return 10 * rep }
func deleted(rep uint8) uint8 { return 10*rep + 1 }
func twice(rep uint8) uint8   { return 10*rep + 2 }

// classOf gives the class of what a replica kept: the next one's filter hasn't it.
func classOf(rep uint8) uint8 { return next(rep) }

// next and previous give the numbers of the neighbours, in a ring.
func next(rep uint8) uint8     { return (rep + 1) % ring }
func previous(rep uint8) uint8 { return (rep + ring - 1) % ring }

// worldOfAll gives a world in which each replica has written one item that it keeps, one that it deleted, and one twice, and all know all. What the one ahead of it keeps, each holds as a Ghost; all else that is kept as it is.
func worldOfAll(t *testing.T) api.World {
	t.Helper()
	w := newWorld(t, without(0), without(1), without(2), without(3))
	for rep := range uint8(ring) {
		w = behind(t, w,
			put(rep, kept(rep), 8*uint32(rep+1)+uint32(classOf(rep))),
			put(rep, deleted(rep), 4), erase(rep, deleted(rep)),
			put(rep, twice(rep), 5), put(rep, twice(rep), 6),
		)
	}
	w = exchanged(t, w)
	all := runs(run(0, 1, 5), run(1, 1, 5), run(2, 1, 5), run(3, 1, 5))
	for rep := range uint8(ring) {
		known(t, w, rep, all...)
		holds(t, w, rep, ghost(kept(previous(rep)), ver(previous(rep), 1, 1), rep))
		holds(t, w, rep, valued(kept(next(rep)), ver(next(rep), 1, 1), 8*uint32(next(rep)+1)+uint32(classOf(next(rep)))))
		holds(t, w, rep, dead(deleted(next(rep)), ver(next(rep), 3, 2)))
		holds(t, w, rep, valued(twice(next(rep)), ver(next(rep), 5, 2), 6))
	}
	return w
}

// alteration alters a world of all, by what is done at one of its replicas.
type alteration struct {
	name  string
	alter func(w *api.World, r *api.Replica)
}

// heldOf gives what a replica holds of an item, to be altered.
func heldOf(r *api.Replica, id uint8) *api.Entry {
	return &r.Held[slices.IndexFunc(r.Held, func(e api.Entry) bool { return e.ID == id })]
}

// lose has a replica hold nothing of an item.
func lose(r *api.Replica, id uint8) {
	r.Held = slices.DeleteFunc(r.Held, func(e api.Entry) bool { return e.ID == id })
}

// learn has a replica know a version.
func learn(r *api.Replica, rep uint8, n uint32) {
	var e error
	if r.Know, e = know.Add(r.Know, rep, n); e != nil {
		panic(e)
	}
}

// forget has a replica not know a version.
func forget(r *api.Replica, rep uint8, n uint32) {
	var e error
	if r.Know, e = know.Drop(r.Know, rep, n); e != nil {
		panic(e)
	}
}

// take has a replica hold an entry.
func take(r *api.Replica, l ...api.Entry) {
	for _, e := range l {
		var wrong error
		if r.Held, wrong = item.Take(r.Held, e); wrong != nil {
			panic(wrong)
		}
	}
}

// made gives an entry of Made, to be altered.
func made(w *api.World, rep uint8, seq uint32) *api.Entry {
	return &w.Made[slices.IndexFunc(w.Made, func(e api.Entry) bool { return e.Ver.Rep == rep && e.Ver.Seq == seq })]
}

// own has a replica write what it alone holds: of the item 50, and the Seq 6. The world's lists are others then.
func own(w *api.World, r *api.Replica) {
	out, m := bag.Do(*w, put(r.Rep, 50, 44))
	if m.Err != 0 {
		panic(m.Err)
	}
	*w = out
}

// numbersWrong are alterations by which a number that is known, or Seq, is wrong.
func numbersWrong() []alteration {
	return []alteration{
		{"one more of another one's than its Seq", func(w *api.World, r *api.Replica) { learn(r, next(r.Rep), 6) }},
		{"one more of the one ahead", func(w *api.World, r *api.Replica) { learn(r, previous(r.Rep), 6) }},
		{"one far above", func(w *api.World, r *api.Replica) { learn(r, next(r.Rep), most) }},
		{"all of another one", func(w *api.World, r *api.Replica) {
			r.Know[next(r.Rep)] = run(next(r.Rep), 1, most)
		}},
		{"of a replica that there isn't", func(w *api.World, r *api.Replica) { learn(r, ring, 1) }},
		{"of the last one that there may be", func(w *api.World, r *api.Replica) { learn(r, api.MaxReps-1, 1) }},
		{"Seq is one more", func(w *api.World, r *api.Replica) { r.Seq++ }},
		{"Seq is the greatest", func(w *api.World, r *api.Replica) { r.Seq = most }},
		{"Seq is one less", func(w *api.World, r *api.Replica) {
			w.Made = append(w.Made, valued(63, ver(r.Rep, 6, 1), 1))
		}},
		{"Seq is one less, by an entry made twice", func(w *api.World, r *api.Replica) {
			w.Made = slices.Insert(w.Made, 0, *made(w, r.Rep, 4))
		}},
		{"one that nobody holds wasn't made", func(w *api.World, r *api.Replica) {
			w.Made = slices.DeleteFunc(w.Made, func(e api.Entry) bool { return e.Ver.Rep == r.Rep && e.Ver.Seq == 4 })
		}},
		{"one was made by another one", func(w *api.World, r *api.Replica) { made(w, r.Rep, 4).Ver.Rep = 77 }},
		{"Seq is far more", func(w *api.World, r *api.Replica) { r.Seq += 1 << 16 }},
	}
}

// numbersRight are next to those.
func numbersRight() []alteration {
	return []alteration{
		{"as it is", func(w *api.World, r *api.Replica) {}},
		{"nothing is known of another one", func(w *api.World, r *api.Replica) {
			r.Know = slices.Delete(r.Know, int(next(r.Rep)), int(next(r.Rep))+1)
			for _, id := range []uint8{kept(next(r.Rep)), deleted(next(r.Rep)), twice(next(r.Rep))} {
				lose(r, id)
			}
		}},
		{"one more, and Seq is", func(w *api.World, r *api.Replica) { own(w, r) }},
		{"one more of another one's, that is its Seq", func(w *api.World, r *api.Replica) {
			own(w, &w.Reps[next(r.Rep)])
			r = &w.Reps[r.Rep]
			learn(r, next(r.Rep), 6)
			take(r, valued(50, ver(next(r.Rep), 6, 1), 44))
		}},
		{"made the other way about", func(w *api.World, r *api.Replica) { slices.Reverse(w.Made) }},
		{"one made by a replica that there isn't", func(w *api.World, r *api.Replica) {
			w.Made = append(w.Made, valued(3, ver(ring, 1, 1), 1), valued(3, ver(77, 1, 1), 1))
		}},
		{"as many, one of them of another Seq", func(w *api.World, r *api.Replica) { made(w, r.Rep, 4).Ver.Seq = 6 }},
		{"as many, two of them alike", func(w *api.World, r *api.Replica) { *made(w, r.Rep, 4) = *made(w, r.Rep, 5) }},
		{"Epoch, Session and Bag", func(w *api.World, r *api.Replica) {
			r.Epoch = 7
			r.Session = api.Session{On: true, Num: 2, From: next(r.Rep), Cursor: 5, Epoch: 9, Offer: runs(run(6, 1, 9)), Last: 4}
			w.Bag = append(w.Bag, nil, []byte{1})
		}},
	}
}

// heldWrong are alterations by which something is held otherwise than it was made.
func heldWrong() []alteration {
	return []alteration{
		{"another value", func(w *api.World, r *api.Replica) { heldOf(r, kept(next(r.Rep))).Value += 8 }},
		{"another value of its own", func(w *api.World, r *api.Replica) { heldOf(r, twice(r.Rep)).Value += 8 }},
		{"another value, and class", func(w *api.World, r *api.Replica) {
			*heldOf(r, twice(r.Rep)) = valued(twice(r.Rep), ver(r.Rep, 5, 2), 5)
		}},
		{"dead of a Real one", func(w *api.World, r *api.Replica) {
			*heldOf(r, kept(next(r.Rep))) = dead(kept(next(r.Rep)), ver(next(r.Rep), 1, 1))
		}},
		{"dead of one that is a Ghost here", func(w *api.World, r *api.Replica) {
			*heldOf(r, kept(previous(r.Rep))) = dead(kept(previous(r.Rep)), ver(previous(r.Rep), 1, 1))
		}},
		{"a Ghost of a Dead one", func(w *api.World, r *api.Replica) {
			*heldOf(r, deleted(next(r.Rep))) = ghost(deleted(next(r.Rep)), ver(next(r.Rep), 3, 2), r.Rep)
		}},
		{"a Ghost of a Dead one, of the class 0, that isn't known", func(w *api.World, r *api.Replica) {
			*heldOf(r, deleted(next(r.Rep))) = ghost(deleted(next(r.Rep)), ver(next(r.Rep), 3, 2), 0)
			forget(r, next(r.Rep), 3)
		}},
		{"Real of a Dead one", func(w *api.World, r *api.Replica) {
			*heldOf(r, deleted(next(r.Rep))) = valued(deleted(next(r.Rep)), ver(next(r.Rep), 3, 2), 4)
		}},
		{"a Ghost of another class", func(w *api.World, r *api.Replica) { heldOf(r, kept(previous(r.Rep))).Class = 7 }},
	}
}

// heldOfNone are alterations by which something is held of a version, or an item, of which none was made.
func heldOfNone() []alteration {
	return []alteration{
		{"another Stamp", func(w *api.World, r *api.Replica) { heldOf(r, kept(next(r.Rep))).Ver.Stamp++ }},
		{"a Ghost of another Stamp", func(w *api.World, r *api.Replica) { heldOf(r, kept(previous(r.Rep))).Ver.Stamp++ }},
		{"dead of another Stamp", func(w *api.World, r *api.Replica) { heldOf(r, deleted(r.Rep)).Ver.Stamp = most }},
		{"another Seq", func(w *api.World, r *api.Replica) {
			*heldOf(r, kept(next(r.Rep))) = ghost(kept(next(r.Rep)), ver(next(r.Rep), 6, 1), 4)
		}},
		{"another Rep", func(w *api.World, r *api.Replica) {
			*heldOf(r, kept(next(r.Rep))) = ghost(kept(next(r.Rep)), ver(ring, 1, 1), 4)
		}},
		{"another item", func(w *api.World, r *api.Replica) {
			e := *heldOf(r, kept(next(r.Rep)))
			lose(r, e.ID)
			e.ID += 5
			take(r, e)
		}},
		{"a Ghost of another item, that isn't known", func(w *api.World, r *api.Replica) {
			take(r, ghost(63, ver(next(r.Rep), 6, 1), 0))
		}},
	}
}

// madeWrong are alterations by which something was made otherwise than it is held.
func madeWrong() []alteration {
	return []alteration{
		{"made twice, the first one of another value", func(w *api.World, r *api.Replica) {
			own(w, r)
			*made(w, r.Rep, 4) = valued(50, ver(r.Rep, 6, 1), 52)
		}},
		{"made twice, the first one a Ghost", func(w *api.World, r *api.Replica) {
			own(w, r)
			*made(w, r.Rep, 4) = ghost(50, ver(r.Rep, 6, 1), 0)
		}},
		{"made twice, the first one dead", func(w *api.World, r *api.Replica) {
			own(w, r)
			*made(w, r.Rep, 4) = dead(50, ver(r.Rep, 6, 1))
		}},
		{"made as no entry may be", func(w *api.World, r *api.Replica) {
			own(w, r)
			made(w, r.Rep, 6).Class = 3
		}},
		{"made as nothing", func(w *api.World, r *api.Replica) {
			own(w, r)
			made(w, r.Rep, 6).Kind = 0
		}},
		{"made of another item", func(w *api.World, r *api.Replica) {
			own(w, r)
			made(w, r.Rep, 6).ID = 51
		}},
		{"a Ghost, made as a Ghost of another class", func(w *api.World, r *api.Replica) {
			own(w, r)
			*made(w, r.Rep, 6) = ghost(50, ver(r.Rep, 6, 1), 3)
			*heldOf(&w.Reps[r.Rep], 50) = ghost(50, ver(r.Rep, 6, 1), 7)
		}},
	}
}

// heldRight are next to those.
func heldRight() []alteration {
	return []alteration{
		{"a Ghost of a Real one, that isn't known", func(w *api.World, r *api.Replica) {
			e := heldOf(r, kept(next(r.Rep)))
			*e = item.Fade(*e)
			forget(r, e.Ver.Rep, e.Ver.Seq)
		}},
		{"a Ghost of a Real one, that isn't known, in no filter", func(w *api.World, r *api.Replica) {
			forget(r, previous(r.Rep), 1)
		}},
		{"a Ghost of the other version of an item", func(w *api.World, r *api.Replica) {
			e := heldOf(r, twice(next(r.Rep)))
			*e = ghost(e.ID, ver(next(r.Rep), 4, 1), 5)
			forget(r, next(r.Rep), 4)
			forget(r, next(r.Rep), 5)
		}},
		{"made twice, the second one of another value", func(w *api.World, r *api.Replica) {
			own(w, r)
			*made(w, r.Rep, 4) = *made(w, r.Rep, 6)
			w.Made[len(w.Made)-1].Value = 52
		}},
		{"made twice, the second one a Ghost", func(w *api.World, r *api.Replica) {
			own(w, r)
			*made(w, r.Rep, 4) = *made(w, r.Rep, 6)
			w.Made[len(w.Made)-1] = ghost(50, ver(r.Rep, 6, 1), 3)
		}},
		{"of a version that was made of another item, too", func(w *api.World, r *api.Replica) {
			own(w, r)
			*made(w, r.Rep, 4) = valued(twice(next(r.Rep)), ver(r.Rep, 6, 1), 5)
		}},
		{"a Ghost, made as a Ghost", func(w *api.World, r *api.Replica) {
			own(w, r)
			*made(w, r.Rep, 6) = ghost(50, ver(r.Rep, 6, 1), 7)
			*heldOf(&w.Reps[r.Rep], 50) = ghost(50, ver(r.Rep, 6, 1), 7)
		}},
	}
}

// lesserWrong are alterations by which something is known, and a lesser version is held, or nothing.
func lesserWrong() []alteration {
	return []alteration{
		{"nothing", func(w *api.World, r *api.Replica) { lose(r, kept(next(r.Rep))) }},
		{"nothing, where a Ghost should be", func(w *api.World, r *api.Replica) { lose(r, kept(previous(r.Rep))) }},
		{"nothing, where it is dead", func(w *api.World, r *api.Replica) { lose(r, deleted(next(r.Rep))) }},
		{"nothing of its own", func(w *api.World, r *api.Replica) { lose(r, twice(r.Rep)) }},
		{"nothing at all", func(w *api.World, r *api.Replica) { r.Held = nil }},
		{"nothing, and the lesser one isn't known", func(w *api.World, r *api.Replica) {
			lose(r, twice(next(r.Rep)))
			forget(r, next(r.Rep), 4)
		}},
		{"nothing, and the greater one isn't known", func(w *api.World, r *api.Replica) {
			lose(r, twice(next(r.Rep)))
			forget(r, next(r.Rep), 5)
		}},
		{"the one ahead", func(w *api.World, r *api.Replica) {
			*heldOf(r, twice(next(r.Rep))) = valued(twice(next(r.Rep)), ver(next(r.Rep), 4, 1), 5)
		}},
		{"a Ghost of the one ahead, that isn't known", func(w *api.World, r *api.Replica) {
			*heldOf(r, twice(next(r.Rep))) = ghost(twice(next(r.Rep)), ver(next(r.Rep), 4, 1), 5)
			forget(r, next(r.Rep), 4)
		}},
		{"the one ahead, where it is dead", func(w *api.World, r *api.Replica) {
			*heldOf(r, deleted(r.Rep)) = valued(deleted(r.Rep), ver(r.Rep, 2, 1), 4)
		}},
		{"the last one made is known, and of no item that is held", func(w *api.World, r *api.Replica) {
			own(w, &w.Reps[next(r.Rep)])
			learn(&w.Reps[r.Rep], next(r.Rep), 6)
		}},
		{"one more made of a version that is known, of no item that there is", func(w *api.World, r *api.Replica) {
			own(w, r)
			*made(w, r.Rep, 4) = valued(200, ver(r.Rep, 6, 1), 44)
		}},
		{"one more made of a version that is known, of a greater Stamp", func(w *api.World, r *api.Replica) {
			own(w, r)
			*made(w, r.Rep, 4) = valued(50, ver(r.Rep, 6, 2), 44)
		}},
	}
}

// lesserRight are next to those.
func lesserRight() []alteration {
	return []alteration{
		{"nothing, and it isn't known", func(w *api.World, r *api.Replica) {
			lose(r, kept(next(r.Rep)))
			forget(r, next(r.Rep), 1)
		}},
		{"nothing, and neither version is known", func(w *api.World, r *api.Replica) {
			lose(r, twice(next(r.Rep)))
			forget(r, next(r.Rep), 4)
			forget(r, next(r.Rep), 5)
		}},
		{"the one ahead, and the greater one isn't known", func(w *api.World, r *api.Replica) {
			*heldOf(r, twice(next(r.Rep))) = valued(twice(next(r.Rep)), ver(next(r.Rep), 4, 1), 5)
			forget(r, next(r.Rep), 5)
		}},
		{"the greater one, and the one ahead isn't known", func(w *api.World, r *api.Replica) { forget(r, next(r.Rep), 4) }},
		{"a greater one that isn't known", func(w *api.World, r *api.Replica) {
			*heldOf(r, twice(next(r.Rep))) = ghost(twice(next(r.Rep)), ver(next(r.Rep), 5, 2), 6)
			forget(r, next(r.Rep), 5)
		}},
		{"a greater one of another replica, that isn't known", func(w *api.World, r *api.Replica) {
			out, m := bag.Do(*w, put(next(r.Rep), kept(r.Rep), 44))
			if m.Err != 0 {
				panic(m.Err)
			}
			*w = out
			*heldOf(&w.Reps[r.Rep], kept(r.Rep)) = ghost(kept(r.Rep), ver(next(r.Rep), 6, 2), 4)
		}},
		{"nothing of one that was made, and of whose Rep nothing is known", func(w *api.World, r *api.Replica) {
			w.Made = append(w.Made, valued(3, ver(ring, 1, 1), 1))
		}},
		{"a number more was made, and isn't known", func(w *api.World, r *api.Replica) { own(w, &w.Reps[next(r.Rep)]) }},
	}
}

// ghostWrong are alterations by which a Ghost is known whose class is in the Filter.
func ghostWrong() []alteration {
	return []alteration{
		{"of another one's", func(w *api.World, r *api.Replica) {
			e := heldOf(r, kept(next(r.Rep)))
			*e = item.Fade(*e)
		}},
		{"of its own", func(w *api.World, r *api.Replica) {
			e := heldOf(r, twice(r.Rep))
			*e = item.Fade(*e)
		}},
		{"by the Filter", func(w *api.World, r *api.Replica) { r.Filter |= 1 << r.Rep }},
		{"by the Filter, that has all", func(w *api.World, r *api.Replica) { r.Filter = 255 }},
	}
}

// ghostRight are next to those.
func ghostRight() []alteration {
	return []alteration{
		{"of another one's, and not known", func(w *api.World, r *api.Replica) {
			e := heldOf(r, kept(next(r.Rep)))
			*e = item.Fade(*e)
			forget(r, next(r.Rep), 1)
		}},
		{"not known, nor all of its replica", func(w *api.World, r *api.Replica) {
			e := heldOf(r, twice(next(r.Rep)))
			*e = item.Fade(*e)
			forget(r, next(r.Rep), 5)
		}},
		{"by the Filter, and not known", func(w *api.World, r *api.Replica) {
			r.Filter = 255
			forget(r, previous(r.Rep), 1)
		}},
		{"by the Filter, in another class", func(w *api.World, r *api.Replica) { r.Filter |= 128 }},
		{"in no class of the Filter", func(w *api.World, r *api.Replica) {
			for i, e := range r.Held {
				r.Held[i] = item.Fade(e)
			}
			r.Filter = 0
		}},
	}
}
