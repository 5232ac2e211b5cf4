package target

import (
	"slices"

	"tidings/api"
	"tidings/item"
	"tidings/know"
	"tidings/note"
	"tidings/replica"
)

// behind gives a replica behind a Batch. What goes wrong leaves by panic.
func behind(r api.Replica, b api.Note) api.Replica {
	out := cloned(sure(r, refusal(r, b)))
	for _, e := range b.Entries {
		out = behindEntry(out, e)
	}
	if b.Cursor == 0 {
		out.Session.Epoch, out.Session.Offer = b.Epoch, slices.Clone(b.Offer)
	}
	if !b.Done {
		out.Session.Cursor = b.Next
		return out
	}
	// Only now, as what is offered may be known when all has come.
	out.Know = sure(know.Union(out.Know, out.Session.Offer))
	return idle(out)
}

// refusal tells why a replica doesn't take in a note, if it doesn't. Wrong, BadNote, Stale, Ended.
func refusal(r api.Replica, b api.Note) error {
	switch {
	case !replica.Right(r):
		return api.Wrong
	case !note.Right(b):
		return api.BadNote
	case !isWaitedFor(r, b):
		return api.Stale
	case isAhead(r, b) || clashes(r, b):
		return api.Wrong
	case b.Cursor != 0 && b.Epoch != r.Session.Epoch:
		return api.Ended
	}
	return nil
}

// isWaitedFor tells whether a note is the Batch that a replica waits for.
func isWaitedFor(r api.Replica, b api.Note) bool {
	s := r.Session
	return b.Kind == api.Batch && b.To == r.Rep && s.On && b.From == s.From && b.Num == s.Num && b.Cursor == s.Cursor
}

// isAhead tells whether a Batch has a version of the replica's own that it didn't write yet.
func isAhead(r api.Replica, b api.Note) bool {
	return slices.ContainsFunc(b.Entries, func(e api.Entry) bool { return e.Ver.Rep == r.Rep && e.Ver.Seq > r.Seq }) ||
		slices.ContainsFunc(b.Offer, func(x api.Run) bool { return x.Rep == r.Rep && x.To > r.Seq })
}

// clashes tells whether an Entry of a Batch can't be, as another item has its Rep and its Seq, there or in what is held.
func clashes(r api.Replica, b api.Note) bool {
	return slices.ContainsFunc(b.Entries, func(e api.Entry) bool {
		// Entries that are right have an ID each, so that another one is of another item.
		takes := func(x api.Entry) bool { return x.ID != e.ID && x.Ver.Rep == e.Ver.Rep && x.Ver.Seq == e.Ver.Seq }
		return slices.ContainsFunc(b.Entries, takes) || slices.ContainsFunc(r.Held, takes)
	})
}

// behindEntry gives a replica behind one Entry of a Batch. What goes wrong leaves by panic.
func behindEntry(r api.Replica, e api.Entry) api.Replica {
	if !item.In(e, r.Filter) {
		e = item.Fade(e)
	}
	r.Held = sure(item.Take(r.Held, e))
	// The value of a Ghost in the filter is still missing: who knew its version would never be told it.
	if e.Kind != api.Ghost || !item.In(e, r.Filter) {
		r.Know = sure(know.Add(r.Know, e.Ver.Rep, e.Ver.Seq))
	}
	return r
}
