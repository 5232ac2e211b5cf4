package replica

import (
	"slices"

	"tidings/api"
	"tidings/item"
	"tidings/know"
)

// Right: is a replica?
func Right(r api.Replica) bool {
	return r.Rep < api.MaxReps && rightRuns(r, r.Know) && rightHeld(r) && rightSession(r)
}

// rightRuns tells whether runs are right, and have no version of the replica's own that it didn't write yet.
func rightRuns(r api.Replica, k []api.Run) bool {
	ahead := func(x api.Run) bool { return x.Rep == r.Rep && x.To > r.Seq }
	return know.Right(k) && !slices.ContainsFunc(k, ahead)
}

// rightHeld tells whether a replica whose Know is right may hold what it holds.
func rightHeld(r api.Replica) bool {
	if !item.Right(r.Held) {
		return false
	}
	for i, e := range r.Held {
		if !mayHold(r, e) || slices.ContainsFunc(r.Held[:i], sameWrite(e)) {
			return false
		}
	}
	return true
}

// mayHold tells whether a replica may hold an entry, whatever else it holds.
func mayHold(r api.Replica, e api.Entry) bool {
	if e.Ver.Rep == r.Rep && e.Ver.Seq > r.Seq {
		return false
	}
	// What is Dead is in every filter.
	return e.Kind == api.Ghost || item.In(e, r.Filter) && know.Has(r.Know, e.Ver.Rep, e.Ver.Seq)
}

// sameWrite tells of an entry whether it is of e's Rep and Seq: a replica writes one entry a number.
func sameWrite(e api.Entry) func(api.Entry) bool {
	return func(x api.Entry) bool { return x.Ver.Rep == e.Ver.Rep && x.Ver.Seq == e.Ver.Seq }
}

// rightSession tells whether a replica may have its Session.
func rightSession(r api.Replica) bool {
	s := r.Session
	if !s.On {
		return s.Num == 0 && s.From == 0 && s.Cursor == 0 && s.Epoch == 0 && len(s.Offer) == 0
	}
	return s.Num >= 1 && s.Num <= s.Last &&
		s.From < api.MaxReps && s.From != r.Rep &&
		s.Cursor < api.MaxItems &&
		rightRuns(r, s.Offer) && (s.Cursor != 0 || atFirst(s))
}

// atFirst tells whether a Session has nothing that only the first Batch brings.
func atFirst(s api.Session) bool { return s.Epoch == 0 && len(s.Offer) == 0 }
