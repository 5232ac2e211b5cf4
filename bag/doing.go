package bag

import (
	"bytes"
	"errors"
	"slices"

	"tidings/api"
	"tidings/item"
	"tidings/note"
	"tidings/replica"
	"tidings/source"
	"tidings/target"
)

// places is how many places of a frame an act's number tells apart; what it is altered by stands above them.
const places = 65536

// doing is a world, in memory of its own, that an act alters: by one of the methods, each of which leaves it as it is, if something goes wrong, unless its remark says otherwise.
type doing struct {
	api.World
	act   api.Act
	value uint32 // what was got
}

// deeds gives what is done, by the Kind of an act. There is none of the Kind 0.
func deeds() [api.DoSpoil + 1]func(*doing) error {
	return [...]func(*doing) error{
		api.DoPut:     (*doing).put,
		api.DoDelete:  (*doing).erase,
		api.DoGet:     (*doing).get,
		api.DoFilter:  (*doing).filter,
		api.DoBegin:   (*doing).begin,
		api.DoAgain:   (*doing).again,
		api.DoQuit:    (*doing).quit,
		api.DoDeliver: (*doing).deliver,
		api.DoDrop:    (*doing).drop,
		api.DoCopy:    (*doing).double,
		api.DoSpoil:   (*doing).spoil,
	}
}

// refusal tells why the act can't be tried, if it can't. Wrong, Nobody, Nothing, TooMany.
func (d *doing) refusal() error {
	kind := d.act.Kind
	switch {
	case !Right(d.World) || kind < api.DoPut || kind > api.DoSpoil:
		return api.Wrong
	case kind <= api.DoQuit && int(d.act.A) >= len(d.Reps):
		return api.Nobody
	case kind >= api.DoDeliver && int(d.act.B) >= len(d.Bag):
		return api.Nothing
	case needsRoom(kind) && len(d.Bag) == api.MaxBag:
		return api.TooMany
	}
	return nil
}

// needsRoom tells whether an act of a Kind makes the Bag longer. One that delivers doesn't: its frame leaves room for what is told.
func needsRoom(kind int) bool {
	return kind == api.DoBegin || kind == api.DoAgain || kind == api.DoCopy
}

// put: an item of A is written.
func (d *doing) put() error { return d.write(replica.Put(d.named(), d.act.B, d.act.N)) }

// erase: an item of A is deleted.
func (d *doing) erase() error { return d.write(replica.Delete(d.named(), d.act.B)) }

// get: an item of A is read.
func (d *doing) get() (e error) {
	d.value, e = replica.Get(d.named(), d.act.B)
	return e
}

// filter: A's filter is changed.
func (d *doing) filter() error { return d.become(replica.Change(d.named(), d.act.B)) }

// begin: A begins to fetch.
func (d *doing) begin() error {
	r, pull, e := target.Begin(d.named(), d.act.B)
	if e != nil {
		return e
	}
	return d.become(r, d.send(pull))
}

// again: A sends its Pull once more.
func (d *doing) again() error {
	pull, e := target.Again(d.named())
	if e != nil {
		return e
	}
	return d.send(pull)
}

// quit: A doesn't fetch any more.
func (d *doing) quit() error { return d.become(target.Quit(d.named())) }

// deliver: a frame comes to whom it is for. It is out of the Bag also if something goes wrong.
func (d *doing) deliver() error {
	n, e := note.Read(d.takeOut())
	switch {
	case e != nil:
		return e
	case int(n.To) >= len(d.Reps):
		return api.Nobody
	case n.Kind == api.Pull:
		return d.answer(n)
	}
	return d.accept(n)
}

// drop: a frame is lost.
func (d *doing) drop() error {
	d.takeOut()
	return nil
}

// double: a frame is doubled.
func (d *doing) double() error {
	d.Bag = append(d.Bag, bytes.Clone(d.Bag[d.act.B]))
	return nil
}

// spoil: a byte of a frame is altered.
func (d *doing) spoil() error {
	f := d.Bag[d.act.B]
	if _, e := note.Read(f); e != nil {
		// What is spoiled again and again may come to have its sum, and be a note that nobody wrote.
		return nil
	}
	at := d.act.N % places % uint32(len(f))
	f[at] ^= byte(d.act.N / places)
	return nil
}

// named gives the replica A.
func (d *doing) named() api.Replica { return d.Reps[d.act.A] }

// become has A be what a call gave, unless something went wrong.
func (d *doing) become(r api.Replica, e error) error {
	if e == nil {
		d.Reps[d.act.A] = r
	}
	return e
}

// write has A be what a call gave that wrote the item B, unless something went wrong.
func (d *doing) write(r api.Replica, e error) error {
	if e == nil {
		// What is written is greater than what was held, and so is held itself.
		written, _ := item.Find(r.Held, d.act.B)
		d.Made = append(d.Made, written)
	}
	return d.become(r, e)
}

// takeOut takes the frame at B out of the Bag.
func (d *doing) takeOut() []byte {
	at := int(d.act.B)
	f := d.Bag[at]
	d.Bag = slices.Delete(d.Bag, at, at+1)
	return f
}

// send puts a note's frame behind all in the Bag.
func (d *doing) send(n api.Note) error {
	f, e := note.Write(n)
	if e == nil {
		d.Bag = append(d.Bag, f)
	}
	return e
}

// answer has the replica that a Pull is for answer it.
func (d *doing) answer(p api.Note) error {
	b, e := source.Answer(d.Reps[p.To], p)
	if e != nil {
		return e
	}
	return d.send(b)
}

// accept has the replica that a Batch is for take it in. With Ended the replica's Session is left.
func (d *doing) accept(b api.Note) error {
	r, pull, more, e := target.Accept(d.Reps[b.To], b)
	if more {
		e = d.send(pull)
	}
	if e == nil || errors.Is(e, api.Ended) {
		d.Reps[b.To] = r
	}
	return e
}
