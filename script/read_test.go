package script_test

import (
	"fmt"
	"testing"

	"tidings/api"
)

// This file has what bytes are read as.

// P9.1: scripts that are written out, byte by byte.
func TestRead(t *testing.T) {
	isRead(t, "one replica, no act", []byte{0, 3}, some(3), nil)
	isRead(t, "the document's example", []byte{1}, some(255, 255), nil)
	isRead(t, "two, and an act", []byte{1, 255, 15, 0, 1, 3, 0, 0, 0, 77}, some(255, 15), list(put(1, 3, 77)))
	isRead(t, "three, and acts", []byte{
		2, 255, 0, 128,
		0, 0, 5, 0, 0, 0, 9,
		4, 1, 0, 0, 0, 0, 0,
		7, 0, 0, 0, 0, 0, 0,
		10, 0, 2, 0, 3, 0, 1,
		2, 2, 63, 0, 0, 0, 0,
	}, some(255, 0, 128), list(put(0, 5, 9), begin(1, 0), deliver(0), spoil(2, 3<<16+1), get(2, 63)))
	isRead(t, "eight, of each bit", []byte{7, 1, 2, 4, 8, 16, 32, 64, 128, 3, 7, 254, 9, 8, 7, 6}, some(1, 2, 4, 8, 16, 32, 64, 128),
		list(api.Act{Kind: api.DoFilter, A: 7, B: 254, N: 0x09080706}))
	isRead(t, "what no act could need", []byte{0, 0, 5, 200, 201, 202, 203, 204, 205}, some(0), list(api.Act{Kind: api.DoAgain, A: 200, B: 201, N: 0xCACBCCCD}))
}

// P9.1: each Kind, by each byte.
func TestReadKinds(t *testing.T) {
	for i, kind := range []int{
		api.DoPut, api.DoDelete, api.DoGet, api.DoFilter, api.DoBegin, api.DoAgain, api.DoQuit, api.DoDeliver, api.DoDrop, api.DoCopy, api.DoSpoil,
	} {
		for of := i; of <= 255; of += 11 {
			b := []byte{0, 1, byte(of), 2, 3, 0, 0, 0, 4}
			isRead(t, fmt.Sprint("Kind ", of), b, some(1), list(api.Act{Kind: kind, A: 2, B: 3, N: 4}))
		}
	}
	edges := []byte{0, 1, 0, 0, 0, 0, 0, 0, 0, 10, 0, 0, 0, 0, 0, 0, 11, 0, 0, 0, 0, 0, 0, 255, 0, 0, 0, 0, 0, 0}
	isRead(t, "0, 10, 11, 255", edges, some(1), list(put(0, 0, 0), spoil(0, 0), put(0, 0, 0), get(0, 0)))
}

// P9.1: N, by each of its bytes; A and B, by each value.
func TestReadNumbers(t *testing.T) {
	for n, of := range map[uint32][]byte{
		0: {0, 0, 0, 0}, 1: {0, 0, 0, 1}, 256: {0, 0, 1, 0}, 65536: {0, 1, 0, 0}, 1 << 24: {1, 0, 0, 0},
		255: {0, 0, 0, 255}, 255 << 8: {0, 0, 255, 0}, 255 << 16: {0, 255, 0, 0}, 255 << 24: {255, 0, 0, 0},
		0x01020304: {1, 2, 3, 4}, 0xFEDCBA98: {0xFE, 0xDC, 0xBA, 0x98}, 1 << 31: {128, 0, 0, 0}, most - 1: {255, 255, 255, 254}, most: {255, 255, 255, 255},
	} {
		isRead(t, fmt.Sprint("N ", n), joined([]byte{0, 1, 0, 2, 3}, of), some(1), list(put(2, 3, n)))
	}
	for i := range 256 {
		b := []byte{0, 1, 0, byte(i), byte(255 - i), 0, 0, 0, 0}
		isRead(t, fmt.Sprint("A ", i), b, some(1), list(put(uint8(i), uint8(255-i), 0)))
	}
}

// P9.1: no byte.
func TestReadNoByte(t *testing.T) {
	isNotRead(t, "nil", nil, api.Nothing)
	isNotRead(t, "empty", []byte{}, api.Nothing)
	isNotRead(t, "empty, with room", []byte{1, 2, 3}[:0], api.Nothing)
}

// P9.1: one byte, of each value: so many replicas, whose filters are missing.
func TestReadOneByte(t *testing.T) {
	for i := range 256 {
		isRead(t, fmt.Sprint("byte ", i), []byte{byte(i)}, all(i%8+1), nil)
	}
}

// P9.1: fewer filters than there are replicas, just as many, and up to a byte less than an act behind them.
func TestReadFilters(t *testing.T) {
	told := some(7, 255, 0, 1, 254, 255, 128, 9)
	for i := range 256 {
		count := i%8 + 1
		for n := range count {
			b := joined([]byte{byte(i)}, told[:n])
			isRead(t, fmt.Sprint(b), b, joined(told[:n], all(count-n)), nil)
		}
		for n := range 7 {
			b := joined([]byte{byte(i)}, told[:count], tail(n))
			isRead(t, fmt.Sprint(b), b, told[:count], nil)
		}
		b := joined([]byte{byte(i)}, told[:count], tail(7))
		isRead(t, fmt.Sprint(b), b, told[:count], list(api.Act{Kind: 1, A: 1, B: 2, N: 0x03040506}))
	}
}

// P9.1: fewer than 7 bytes behind the last act are none.
func TestReadBehindActs(t *testing.T) {
	for _, filters := range [][]uint8{some(255), some(1, 255), some(1, 2, 3, 4, 5, 6, 7, 8)} {
		for _, count := range []int{1, 2, 7, 8, 50, api.MaxActs - 1} {
			l := ofActs(count)
			b := joined([]byte{byte(len(filters) - 1)}, filters, bytesOf(l...))
			for n := range 7 {
				isRead(t, fmt.Sprint(count, " acts, and ", n, " bytes"), joined(b, tail(n)), filters, l)
			}
			isRead(t, fmt.Sprint(count, " acts, and another one"), joined(b, bytesOf(quit(3))), filters, append(l, quit(3)))
		}
	}
}

// P9.1: MaxActs acts, with up to 6 bytes behind them; one more, with as many, and more than that.
func TestReadMaxActs(t *testing.T) {
	for count := 1; count <= api.MaxReps; count++ {
		l := ofActs(api.MaxActs)
		b := joined([]byte{byte(count - 1)}, all(count), bytesOf(l...))
		for n := range 7 {
			isRead(t, fmt.Sprint("MaxActs, and ", n, " bytes"), joined(b, tail(n)), all(count), l)
			isNotRead(t, fmt.Sprint("one more, and ", n, " bytes"), joined(b, bytesOf(quit(0)), tail(n)), api.TooMany)
		}
		for _, more := range []int{2, 3, 256, 65536 - api.MaxActs, 65536, 100000} {
			isNotRead(t, fmt.Sprint(more, " more"), joined(b, bytesOf(ofActs(more)...)), api.TooMany)
		}
	}
}

// P9.1: bytes of many kinds, held against a second reading.
func TestReadAgainst(t *testing.T) {
	var s numbers
	for range 4000 {
		b := s.bytes(1 + s.below(chosen(&s, 20, 100, 3000)))
		filters, l, e := meant(b)
		if e != nil {
			isNotRead(t, fmt.Sprint(len(b), " bytes"), b, api.TooMany)
			continue
		}
		isRead(t, fmt.Sprint(shown(b)), b, filters, l)
	}
}
