package script_test

import (
	"fmt"
	"math"
	"testing"

	"tidings/api"
)

// This file has what filters and acts are written as.

// P9.2: filters without acts, up to the last one that isn't 255; with one, all.
func TestWriteFilters(t *testing.T) {
	a := api.Act{Kind: api.DoGet, A: 1, B: 2, N: 3}
	of := []byte{2, 1, 2, 0, 0, 0, 3}
	for _, c := range []struct{ filters, told []uint8 }{
		{some(255), nil},
		{some(0), some(0)},
		{some(254), some(254)},
		{some(255, 255), nil},
		{some(1, 255), some(1)},
		{some(255, 1), some(255, 1)},
		{some(1, 2), some(1, 2)},
		{some(255, 255, 255), nil},
		{some(1, 255, 2), some(1, 255, 2)},
		{some(255, 3, 255), some(255, 3)},
		{some(255, 255, 0), some(255, 255, 0)},
		{some(0, 255, 255), some(0)},
		{some(1, 2, 255, 255, 5), some(1, 2, 255, 255, 5)},
		{some(1, 255, 3, 255, 255, 255), some(1, 255, 3)},
		{all(7), nil},
		{all(8), nil},
		{some(1, 2, 3, 4, 5, 6, 7, 8), some(1, 2, 3, 4, 5, 6, 7, 8)},
		{some(1, 2, 3, 4, 5, 6, 7, 255), some(1, 2, 3, 4, 5, 6, 7)},
		{some(1, 255, 255, 255, 255, 255, 255, 255), some(1)},
		{some(255, 255, 255, 255, 255, 255, 255, 1), some(255, 255, 255, 255, 255, 255, 255, 1)},
		{some(0, 255, 0, 255, 0, 255, 0, 255), some(0, 255, 0, 255, 0, 255, 0)},
	} {
		head := []byte{byte(len(c.filters) - 1)}
		isWritten(t, fmt.Sprint(c.filters), c.filters, nil, joined(head, c.told))
		isWritten(t, fmt.Sprint(c.filters), c.filters, list(), joined(head, c.told))
		isWritten(t, fmt.Sprint(c.filters, " and an act"), c.filters, list(a), joined(head, c.filters, of))
		isWritten(t, fmt.Sprint(c.filters, " and acts"), c.filters, list(a, a), joined(head, c.filters, of, of))
	}
}

// P9.2: acts of each Kind, byte by byte.
func TestWriteActs(t *testing.T) {
	isWritten(t, "each Kind", some(1), list(
		put(0, 1, 2), erase(3, 4), get(5, 6), filter(7, 255), begin(8, 0), again(9), quit(255), deliver(1), drop(63), double(64), spoil(2, most),
	), []byte{
		0, 1,
		0, 0, 1, 0, 0, 0, 2,
		1, 3, 4, 0, 0, 0, 0,
		2, 5, 6, 0, 0, 0, 0,
		3, 7, 255, 0, 0, 0, 0,
		4, 8, 0, 0, 0, 0, 0,
		5, 9, 0, 0, 0, 0, 0,
		6, 255, 0, 0, 0, 0, 0,
		7, 0, 1, 0, 0, 0, 0,
		8, 0, 63, 0, 0, 0, 0,
		9, 0, 64, 0, 0, 0, 0,
		10, 0, 2, 255, 255, 255, 255,
	})
	isWritten(t, "N, by its bytes", some(9, 255), list(put(1, 2, 0x01020304), spoil(255, 1<<24), put(0, 0, 1<<16), put(0, 0, 1<<8), put(0, 0, 1)), []byte{
		1, 9, 255,
		0, 1, 2, 1, 2, 3, 4,
		10, 0, 255, 1, 0, 0, 0,
		0, 0, 0, 0, 1, 0, 0,
		0, 0, 0, 0, 0, 1, 0,
		0, 0, 0, 0, 0, 0, 1,
	})
	// What an act doesn't need is told, too: it is part of the act.
	isWritten(t, "any A, B and N", some(255), list(api.Act{Kind: api.DoAgain, A: 200, B: 201, N: 0xCACBCCCD}), []byte{0, 255, 5, 200, 201, 202, 203, 204, 205})
}

// P9.2: MaxActs acts.
func TestWriteMaxActs(t *testing.T) {
	for _, filters := range [][]uint8{some(255), some(1, 255), all(8)} {
		head := joined([]byte{byte(len(filters) - 1)}, filters)
		for _, count := range []int{api.MaxActs - 1, api.MaxActs} {
			l := ofActs(count)
			isWritten(t, fmt.Sprint(count, " acts"), filters, l, joined(head, bytesOf(l...)))
		}
	}
}

// wrongFilters is filters that a script can't have.
func wrongFilters() [][]uint8 {
	return [][]uint8{nil, {}, make([]uint8, api.MaxReps+1), all(api.MaxReps + 1), all(16), all(255), all(256), all(257), all(264), all(65536 + 1), make([]uint8, 1000000)}
}

// wrongKinds is Kinds that there aren't, some of which are alike to one that there is, by their lowest bits, or modulo 11.
func wrongKinds() []int {
	return []int{0, 12, -1, -10, -11, 13, 22, 23, 255, 256, 257, 267, 268, 65537, 1<<32 + 1, math.MaxInt, math.MinInt, math.MinInt + 1}
}

// P9.2: no filter, and more than MaxReps.
func TestWriteWrongFilters(t *testing.T) {
	for _, filters := range wrongFilters() {
		for _, l := range [][]api.Act{nil, list(put(0, 0, 0)), ofActs(api.MaxActs)} {
			isNotWritten(t, fmt.Sprint(len(filters), " filters"), filters, l, api.Wrong)
		}
	}
}

// P9.2: an act's Kind that there isn't, wherever the act stands.
func TestWriteWrongKinds(t *testing.T) {
	for _, kind := range wrongKinds() {
		wrong, right := api.Act{Kind: kind}, spoil(1, 1)
		for _, l := range [][]api.Act{list(wrong), list(wrong, right), list(right, wrong), list(put(1, 1, 1), wrong, right), append(ofActs(api.MaxActs-1), wrong)} {
			isNotWritten(t, fmt.Sprint("Kind ", kind), some(255, 1), l, api.Wrong)
		}
	}
}

// P9.2: more than MaxActs acts.
func TestWriteTooMany(t *testing.T) {
	for _, filters := range [][]uint8{some(255), some(1, 2), all(8)} {
		for _, count := range []int{api.MaxActs + 1, api.MaxActs + 2, 1000, 65536, 1000000} {
			isNotWritten(t, fmt.Sprint(count, " acts"), filters, ofActs(count), api.TooMany)
		}
	}
}

// P9.2: where several things are wrong, Wrong comes ahead of TooMany, whichever it is, and wherever the act stands.
func TestWriteWrongFirst(t *testing.T) {
	many := ofActs(api.MaxActs + 1)
	for _, filters := range wrongFilters() {
		isNotWritten(t, fmt.Sprint(len(filters), " filters, and many acts"), filters, many, api.Wrong)
		isNotWritten(t, fmt.Sprint(len(filters), " filters, and a Kind"), filters, list(api.Act{}), api.Wrong)
		isNotWritten(t, fmt.Sprint(len(filters), " filters, many acts, and a Kind"), filters, append(many[:api.MaxActs+1:api.MaxActs+1], api.Act{}), api.Wrong)
	}
	for _, kind := range wrongKinds() {
		for _, at := range []int{0, 1, api.MaxActs - 1, api.MaxActs, api.MaxActs + 1, 999} {
			l := ofActs(1000)
			l[at].Kind = kind
			isNotWritten(t, fmt.Sprint("Kind ", kind, " at ", at, " of many"), some(255), l, api.Wrong)
		}
	}
	l := ofActs(api.MaxActs + 1)
	l[api.MaxActs].Kind = 12
	isNotWritten(t, "the one that is too many", some(255), l, api.Wrong)
}
