package note

import "tidings/api"

// parsed gives the note whose bytes a payload is.
func parsed(b []byte) (n api.Note, e error) {
	defer func() {
		// What leaves by panic is a fault; n isn't set yet then.
		if p := recover(); p != nil {
			e = p.(*api.Fault)
		}
	}()
	r := &reader{payload: b}
	got := r.note()
	if r.at < len(b) {
		return api.Note{}, badNote(r.at)
	}
	if !Right(got) {
		return api.Note{}, badNote(len(b))
	}
	return got, nil
}

// badNote is the fault of a payload that is no right note's bytes.
func badNote(at int) *api.Fault { return &api.Fault{At: at, Err: api.BadNote} }

// reader reads a payload field by field; at is where the next field begins.
type reader struct {
	payload []byte
	at      int
}

// field gives the bytes of the next field. It leaves by panic, if that doesn't end within the payload.
func (r *reader) field(size int) []byte {
	if len(r.payload)-r.at < size {
		panic(badNote(r.at))
	}
	from := r.at
	r.at += size
	return r.payload[from:r.at]
}

// small reads a field of one byte.
func (r *reader) small() uint8 { return r.field(1)[0] }

// number reads a field of four bytes, the highest one first.
func (r *reader) number() uint32 {
	f := r.field(4)
	return uint32(f[0])<<24 | uint32(f[1])<<16 | uint32(f[2])<<8 | uint32(f[3])
}

// kind reads a note's Kind. It leaves by panic, if there is none such.
func (r *reader) kind() int {
	at := r.at
	k := int(r.small())
	if k != api.Pull && k != api.Batch {
		panic(badNote(at))
	}
	return k
}

// truth reads what is 1, if it holds, else 0. It leaves by panic, if it is neither.
func (r *reader) truth() bool {
	at := r.at
	t := r.small()
	if t > 1 {
		panic(badNote(at))
	}
	return t == 1
}

// note reads a note, right or not.
func (r *reader) note() api.Note {
	small, number := r.small, r.number
	n := api.Note{Kind: r.kind(), From: small(), To: small(), Num: number(), Cursor: small()}
	if n.Kind == api.Pull {
		n.Filter = small()
		n.Know = list(small, r.run)
		return n
	}
	n.Epoch = number()
	n.Entries = list(small, r.entry)
	n.Next = small()
	n.Done = r.truth()
	n.Offer = list(small, r.run)
	return n
}

// run reads a run.
func (r *reader) run() api.Run {
	return api.Run{Rep: r.small(), From: r.number(), To: r.number()}
}

// entry reads an entry.
func (r *reader) entry() api.Entry {
	small, number := r.small, r.number
	return api.Entry{
		ID:    small(),
		Ver:   api.Ver{Rep: small(), Seq: number(), Stamp: number()},
		Kind:  int(small()),
		Class: small(),
		Value: number(),
	}
}

// list reads how many there are, and each.
func list[T any](small func() uint8, each func() T) []T {
	var l []T
	for range small() {
		l = append(l, each())
	}
	return l
}
