package audit

import (
	"slices"

	"tidings/api"
	"tidings/item"
	"tidings/know"
)

// write is what an entry that was written is looked up by: the item, and the version.
type write struct {
	id  uint8
	ver api.Ver
}

// firstWrites gives the first entry of each item and version.
func firstWrites(made []api.Entry) map[write]api.Entry {
	first := make(map[write]api.Entry, len(made))
	for _, e := range made {
		at := write{id: e.ID, ver: e.Ver}
		if _, found := first[at]; !found {
			first[at] = e
		}
	}
	return first
}

// view is a replica, and the world, which is right, that it is held against; made has the first entry of each item and version.
type view struct {
	world   api.World
	made    map[write]api.Entry
	replica api.Replica
}

// question is what is asked of a replica, and what it means if it is so.
type question struct {
	asked func() bool
	code  api.Code
}

// wrong tells what is wrong with the replica, the first thing that is. Wrong, Nothing, Stale, Outside.
func (v view) wrong() error {
	for _, q := range [...]question{
		{asked: v.miscounts, code: api.Wrong},
		{asked: v.holdsUnmade, code: api.Nothing},
		{asked: v.lacksKnown, code: api.Stale},
		{asked: v.claimsGhost, code: api.Outside},
	} {
		if q.asked() {
			return q.code
		}
	}
	return nil
}

// miscounts tells whether a number is known that nobody has come to, or the replica's own Seq isn't how much it wrote.
func (v view) miscounts() bool {
	wrote := uint64(0)
	for _, e := range v.world.Made {
		if e.Ver.Rep == v.replica.Rep {
			wrote++
		}
	}
	return uint64(v.replica.Seq) != wrote || slices.ContainsFunc(v.replica.Know, v.isAhead)
}

// isAhead tells whether a run has a number above the Seq of its replica, or there is none.
func (v view) isAhead(k api.Run) bool {
	return int(k.Rep) >= len(v.world.Reps) || k.To > v.world.Reps[k.Rep].Seq
}

// holdsUnmade tells whether something is held that wasn't written so.
func (v view) holdsUnmade() bool { return slices.ContainsFunc(v.replica.Held, v.isUnmade) }

// isUnmade tells whether an entry is neither what was written first of its item and version, nor a ghost of that.
func (v view) isUnmade(held api.Entry) bool {
	first, found := v.made[write{id: held.ID, ver: held.Ver}]
	// What isn't Real is its own ghost: so nothing but itself may be held of it.
	return !found || held != first && held != item.Fade(first)
}

// lacksKnown tells whether something is known, and neither that nor anything greater of its item is held.
func (v view) lacksKnown() bool { return slices.ContainsFunc(v.world.Made, v.isLacked) }

// isLacked tells of an entry that was written whether it is known, and neither it nor a greater one is held.
func (v view) isLacked(made api.Entry) bool {
	held, found := item.Find(v.replica.Held, made.ID)
	return (!found || item.Cmp(held.Ver, made.Ver) < 0) && v.knows(made)
}

// claimsGhost tells whether a Ghost is known whose value the replica should have.
func (v view) claimsGhost() bool { return slices.ContainsFunc(v.replica.Held, v.isClaimed) }

// isClaimed tells whether an entry that is held is such a Ghost.
func (v view) isClaimed(held api.Entry) bool {
	return held.Kind == api.Ghost && item.In(held, v.replica.Filter) && v.knows(held)
}

// knows tells whether an entry's version is known.
func (v view) knows(e api.Entry) bool { return know.Has(v.replica.Know, e.Ver.Rep, e.Ver.Seq) }
