package wire

import (
	"bytes"
	"hash/crc32"
	"testing"
)

// The chapter's Ways: the sums of single bytes stand in the array from the start on, as byteSum gives them.
func TestByteSums(t *testing.T) {
	for c, got := range byteSums {
		if want := crc32.IEEETable[c]; got != want || byteSum(uint8(c)) != want {
			t.Errorf("%v: %08X, and %08X, not %08X", c, got, byteSum(uint8(c)), want)
		}
	}
}

// P3.1, P3.2: no answer hangs on the array.
func TestAnswersWithoutByteSums(t *testing.T) {
	was := byteSums
	defer func() { byteSums = was }()
	clear(byteSums[:])
	for size := range 300 {
		b := make([]byte, size)
		for i := range b {
			b[i] = byte(7*i + size)
		}
		if Sum(b) != crc32.ChecksumIEEE(b) {
			t.Errorf("%v bytes: %08X", size, Sum(b))
		}
		f, e := Seal(b)
		if e != nil {
			t.Fatalf("%v bytes: %v", size, e)
		}
		if got, e := Open(f); e != nil || !bytes.Equal(got, b) {
			t.Errorf("%v bytes: %v %v", size, got, e)
		}
	}
}
