package target_test

import (
	"slices"
	"strconv"
	"testing"

	"tidings/api"
	"tidings/replica"
	"tidings/target"
)

// P7.1: of each replica, from each one: Wrong from 8 on, and from itself.
func TestBegin(t *testing.T) {
	for rep := range uint8(api.MaxReps) {
		for from := range 256 {
			r := api.Replica{Rep: rep, Filter: 85, Seq: 3, Know: runs(run(6, 1, 3)), Held: entries(ghost(4, ver(5, 1, 1), 1)), Session: api.Session{Last: 8}}
			name := strconv.Itoa(int(rep)) + " from " + strconv.Itoa(from)
			if from >= api.MaxReps || uint8(from) == rep {
				beginsNot(t, name, r, uint8(from), api.Wrong)
				continue
			}
			want := r
			want.Session = api.Session{On: true, Num: 9, From: uint8(from), Last: 9}
			begins(t, name, r, uint8(from), want)
		}
	}
}

// P7.1: the first Session, told in full.
func TestTheFirstBegin(t *testing.T) {
	out, pull, e := target.Begin(api.Replica{}, 7)
	if want := (api.Replica{Session: api.Session{On: true, Num: 1, From: 7, Last: 1}}); e != nil || !alike(out, want) {
		t.Errorf("%+v %v", out, e)
	}
	if want := (api.Note{Kind: api.Pull, From: 0, To: 7, Num: 1}); !alikeNotes(pull, want) {
		t.Errorf("%+v", pull)
	}
	r, _ := replica.New(1, 0b11)
	r, _ = replica.Put(r, 3, 9)
	_, pull, e = target.Begin(r, 0)
	if want := (api.Note{Kind: api.Pull, From: 1, To: 0, Num: 1, Filter: 0b11, Know: runs(run(1, 1, 1))}); e != nil || !alikeNotes(pull, want) {
		t.Errorf("%+v %v", pull, e)
	}
}

// P7.1: one begun while another is On: that one is left, and nothing of it stays, from another replica or from the same one.
func TestBeginWhileOn(t *testing.T) {
	for _, from := range []uint8{0, 4, 5, 7} {
		for name, r := range map[string]api.Replica{"waiting": waiting(), "starting": starting(), "at its last": at(waiting(), 63)} {
			want := r
			want.Session = api.Session{On: true, Num: 7, From: from, Last: 7}
			begins(t, name, r, from, want)
			out, _, _ := target.Begin(r, from)
			refused(t, name+", the one that was left", out, reply(r), api.Stale)
			accepts(t, name+", the one that is On", out, reply(out), quitted(want))
		}
	}
}

// P7.1: Last at MaxNumber, and one below; On and not On, and On with a Num below Last.
func TestBeginAtTheLast(t *testing.T) {
	last := func(r api.Replica, num, last uint32) api.Replica {
		r.Session.Num, r.Session.Last = num, last
		return r
	}
	for name, r := range map[string]api.Replica{"not On": last(idle(), 0, most-1), "On": last(waiting(), most-1, most-1), "On, Num 1": last(waiting(), 1, most-1)} {
		want := r
		want.Session = api.Session{On: true, Num: most, From: 0, Last: most}
		begins(t, name, r, 0, want)
		out, _, _ := target.Begin(r, 0)
		goesOn(t, name, out)
		beginsNot(t, name+", the next one", out, 0, api.TooMany)
	}
	for name, r := range map[string]api.Replica{"not On": last(idle(), 0, most), "On": last(waiting(), most, most), "On, Num 1": last(waiting(), 1, most)} {
		for from := range uint8(api.MaxReps) {
			if from == r.Rep {
				beginsNot(t, name+", from itself", r, from, api.Wrong)
			} else {
				beginsNot(t, name, r, from, api.TooMany)
			}
		}
		beginsNot(t, name+", from 8", r, 8, api.Wrong)
		beginsNot(t, name+", from 255", r, 255, api.Wrong)
	}
	// What is left, or quit, is never begun again by its number.
	out, _ := target.Quit(last(waiting(), 1, most))
	beginsNot(t, "quit at the last", out, 0, api.TooMany)
}

// P7.1: the Pull again, and the Session left: at each Cursor, and where it is not On.
func TestAgainAndQuit(t *testing.T) {
	goesOn(t, "starting", starting())
	for cursor := uint8(1); cursor < api.MaxItems; cursor++ {
		goesOn(t, "at "+strconv.Itoa(int(cursor)), at(waiting(), cursor))
	}
	for name, r := range map[string]api.Replica{"nothing": {}, "idle": idle(), "Last at most": {Session: api.Session{Last: most}}, "no Offer": {Session: api.Session{Offer: runs()}}} {
		goesNotOn(t, name, r, api.Nothing)
	}
	pull, e := target.Again(waiting())
	if want := (api.Note{Kind: api.Pull, From: 3, To: 5, Num: 4, Cursor: 12, Filter: 0b10100101, Know: waiting().Know}); e != nil || !alikeNotes(pull, want) {
		t.Errorf("again: %+v %v", pull, e)
	}
	out, e := target.Quit(waiting())
	if e != nil || !alike(out, altered(waiting(), func(r *api.Replica) { r.Session = api.Session{Last: 6} })) {
		t.Errorf("quit: %+v %v", out, e)
	}
	goesNotOn(t, "quit", out, api.Nothing)
	refused(t, "quit", out, reply(waiting()), api.Stale)
}

// P7.1: neither asking again nor quitting alters what a later Session is.
func TestBeginBehindQuit(t *testing.T) {
	r, first, _ := target.Begin(api.Replica{Rep: 1}, 0)
	for num := uint32(2); num < 6; num++ {
		if again, e := target.Again(r); e != nil || !alikeNotes(again, first) {
			t.Fatalf("again: %+v %v", again, e)
		}
		r, _ = target.Quit(r)
		r, first, _ = target.Begin(r, 0)
		if first.Num != num || r.Session.Num != num || r.Session.Last != num {
			t.Fatalf("begun: %+v %+v", first, r)
		}
	}
}

// wrongReplicas is replicas that aren't right, by each of their fields; of some the Session is On, of some it isn't.
func wrongReplicas() map[string]api.Replica {
	of := func(alter func(*api.Replica)) api.Replica { return altered(waiting(), alter) }
	return map[string]api.Replica{
		"Rep 8":                   of(func(r *api.Replica) { r.Rep = 8 }),
		"Rep 255":                 {Rep: 255},
		"another Filter":          of(func(r *api.Replica) { r.Filter = 0 }),
		"Seq too small":           of(func(r *api.Replica) { r.Seq = 8 }),
		"Know that falls":         of(func(r *api.Replica) { slices.Reverse(r.Know) }),
		"Know of 65 runs":         bare(255, singles(0, api.MaxRuns+1)),
		"Know of Rep 8":           bare(255, runs(run(8, 1, 1))),
		"nothing known":           of(func(r *api.Replica) { r.Know = nil }),
		"Held that falls":         of(func(r *api.Replica) { slices.Reverse(r.Held) }),
		"Held of 64":              bare(255, nil, ghost(64, ver(1, 1, 1), 1)),
		"Held of Seq 0":           bare(255, nil, ghost(4, ver(1, 0, 1), 1)),
		"Held of Kind 4":          of(func(r *api.Replica) { r.Held[2].Kind = 4 }),
		"a Ghost of a Value":      of(func(r *api.Replica) { r.Held[2].Value = 1 }),
		"two of one number":       bare(255, nil, ghost(4, ver(1, 1, 1), 1), ghost(5, ver(1, 1, 2), 1)),
		"own above Seq":           bare(255, nil, ghost(4, ver(2, 10, 1), 1)),
		"own above Seq, idle":     quitted(bare(255, runs(run(2, 10, 10)))),
		"Session, From itself":    of(func(r *api.Replica) { r.Session.From = r.Rep }),
		"Session, From 8":         of(func(r *api.Replica) { r.Session.From = 8 }),
		"Session, Num 0":          of(func(r *api.Replica) { r.Session.Num = 0 }),
		"Session, Num too great":  of(func(r *api.Replica) { r.Session.Num = 7 }),
		"Session, Cursor 64":      of(func(r *api.Replica) { r.Session.Cursor = 64 }),
		"Session, Cursor 0":       of(func(r *api.Replica) { r.Session.Cursor = 0 }),
		"Session, not On":         of(func(r *api.Replica) { r.Session.On = false }),
		"Session, Offer of Rep 8": of(func(r *api.Replica) { r.Session.Offer[1].Rep = 8 }),
		"Session, Offer of own":   of(func(r *api.Replica) { r.Session.Offer[0].To = 10 }),
		"idle, a From":            altered(idle(), func(r *api.Replica) { r.Session.From = 5 }),
		"Last at most":            altered(idle(), func(r *api.Replica) { r.Know, r.Session.Last = nil, most }),
	}
}

// P7.1: a replica that isn't right, whatever else is wrong.
func TestWrongReplicas(t *testing.T) {
	for name, r := range wrongReplicas() {
		for _, from := range []uint8{0, 1, 5, 7, 8, 255, r.Rep} {
			beginsNot(t, name, r, from, api.Wrong)
		}
		goesNotOn(t, name, r, api.Wrong)
	}
}
