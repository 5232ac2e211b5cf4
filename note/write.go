package note

import "tidings/api"

// payload gives the bytes of a note that is right: so each list is short enough to be counted in one byte.
func payload(n api.Note) []byte {
	b := putNumber([]byte{byte(n.Kind), n.From, n.To}, n.Num)
	b = append(b, n.Cursor)
	if n.Kind == api.Pull {
		return putList(append(b, n.Filter), n.Know, putRun)
	}
	b = putList(putNumber(b, n.Epoch), n.Entries, putEntry)
	b = append(b, n.Next, truthByte(n.Done))
	return putList(b, n.Offer, putRun)
}

// putNumber puts a number of four bytes behind b, the highest one first.
func putNumber(b []byte, n uint32) []byte {
	return append(b, byte(n>>24), byte(n>>16), byte(n>>8), byte(n))
}

// putRun puts a run behind b.
func putRun(b []byte, r api.Run) []byte {
	return putNumber(putNumber(append(b, r.Rep), r.From), r.To)
}

// putEntry puts an entry behind b.
func putEntry(b []byte, e api.Entry) []byte {
	b = putNumber(append(b, e.ID, e.Ver.Rep), e.Ver.Seq)
	b = append(putNumber(b, e.Ver.Stamp), byte(e.Kind), e.Class)
	return putNumber(b, e.Value)
}

// putList puts how many there are behind b, and each.
func putList[T any](b []byte, l []T, put func([]byte, T) []byte) []byte {
	b = append(b, byte(len(l)))
	for _, x := range l {
		b = put(b, x)
	}
	return b
}

// truthByte gives the byte of what holds, or doesn't.
func truthByte(holds bool) byte {
	if holds {
		return 1
	}
	return 0
}
