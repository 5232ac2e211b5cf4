package wire_test

import (
	"bytes"
	"errors"
	"hash/crc32"
	"slices"
	"testing"

	"tidings/api"
	"tidings/wire"
)

// slowSum is the sum by the document's words, bit by bit.
func slowSum(b []byte) uint32 {
	sum := uint32(0xFFFFFFFF)
	for _, c := range b {
		for bit := range 8 {
			differ := sum&1 != uint32(c>>bit&1)
			sum >>= 1
			if differ {
				sum ^= 0xEDB88320
			}
		}
	}
	return sum ^ 0xFFFFFFFF
}

// payload makes bytes of which neighbours differ, and that don't repeat with a power of two.
func payload(size int) []byte {
	b := make([]byte, size)
	for i := range b {
		b[i] = byte(i*7 + i/251 + 1)
	}
	return b
}

// summed puts the sum behind bytes, whatever they are.
func summed(b []byte) []byte {
	s := slowSum(b)
	return slices.Concat(b, []byte{byte(s >> 24), byte(s >> 16), byte(s >> 8), byte(s)})
}

// telling makes bytes that say that the payload has told bytes, whatever it has, with the right sum behind.
func telling(told int, b []byte) []byte {
	return summed(slices.Concat([]byte{byte(told >> 8), byte(told)}, b))
}

// frame makes the right frame of a payload.
func frame(b []byte) []byte { return telling(len(b), b) }

// spoiled gives a frame with bytes from a place on altered, in memory of its own.
func spoiled(f []byte, at int, by ...byte) []byte {
	g := bytes.Clone(f)
	for i, x := range by {
		g[at+i] ^= x
	}
	return g
}

// refused fails unless Open told no payload and that code.
func refused(t *testing.T, name string, f []byte, want api.Code) {
	t.Helper()
	if b, e := wire.Open(f); len(b) != 0 || !errors.Is(e, want) {
		t.Errorf("%s: %v bytes, %v, not %v", name, len(b), e, want)
	}
}

// edgeSizes is payload sizes at every edge: of the limit, and of what a byte holds.
func edgeSizes() []int {
	return []int{0, 1, 2, 3, 4, 5, 6, 7, 254, 255, 256, 257, 4090, api.MaxPayload - 1, api.MaxPayload}
}

// P3.1: sums that are known.
func TestSum(t *testing.T) {
	for text, want := range map[string]uint32{
		"":                 0,
		"123456789":        0xCBF43926,
		"a":                0xE8B7BE43,
		"abc":              0x352441C2,
		"\x00":             0xD202EF8D,
		"\xff":             0xFF000000,
		"\x00\x00":         0x41D912FF,
		"\xff\xff\xff\xff": 0xFFFFFFFF,
		"The quick brown fox jumps over the lazy dog": 0x414FA339,
	} {
		if got := wire.Sum([]byte(text)); got != want {
			t.Errorf("%q: %08X, not %08X", text, got, want)
		}
	}
	if wire.Sum(nil) != 0 {
		t.Error("nil: not 0")
	}
}

// P3.1: each byte alone, each two of them, and long ones.
func TestSumOfAnyBytes(t *testing.T) {
	for c := range 256 {
		for d := range 256 {
			for _, b := range [][]byte{{byte(c)}, {byte(c), byte(d)}} {
				if got, want := wire.Sum(b), slowSum(b); got != want {
					t.Fatalf("%v: %08X, not %08X", b, got, want)
				}
			}
		}
	}
	for _, size := range append(edgeSizes(), 65535, 65536, 1<<20) {
		for _, b := range [][]byte{payload(size), make([]byte, size), bytes.Repeat([]byte{255}, size)} {
			got := wire.Sum(b)
			if want := slowSum(b); got != want || got != crc32.ChecksumIEEE(b) {
				t.Errorf("%v bytes: %08X, not %08X", size, got, want)
			}
		}
	}
}

// P3.1: frames, byte by byte.
func TestSealOfFew(t *testing.T) {
	for text, want := range map[string][]byte{
		"":          {0, 0, 0x41, 0xD9, 0x12, 0xFF},
		"a":         {0, 1, 'a', 0xDC, 0xEF, 0xB9, 0x9D},
		"123456789": {0, 9, '1', '2', '3', '4', '5', '6', '7', '8', '9', 0xBA, 0x6F, 0xB7, 0xAE},
	} {
		if f, e := wire.Seal([]byte(text)); e != nil || !bytes.Equal(f, want) {
			t.Errorf("%q: % X %v", text, f, e)
		}
	}
	if f, e := wire.Seal(nil); e != nil || !bytes.Equal(f, frame(nil)) {
		t.Errorf("nil: % X %v", f, e)
	}
}

// P3.1: how many bytes, the high one first; the payload; the sum of all ahead.
func TestSeal(t *testing.T) {
	for _, size := range edgeSizes() {
		b := payload(size)
		f, e := wire.Seal(b)
		if e != nil || len(f) != size+6 {
			t.Fatalf("%v bytes: %v of the frame, %v", size, len(f), e)
		}
		if int(f[0]) != size/256 || int(f[1]) != size%256 {
			t.Errorf("%v bytes: it says % X", size, f[:2])
		}
		if !bytes.Equal(f[2:2+size], b) {
			t.Errorf("%v bytes: another payload", size)
		}
		if !bytes.Equal(f, summed(f[:2+size])) {
			t.Errorf("%v bytes: the sum % X", size, f[2+size:])
		}
	}
}

// P3.1: TooMany, also where two bytes would hold how many they are, or its lowest bytes look like few.
func TestSealOfTooMany(t *testing.T) {
	for _, size := range []int{api.MaxPayload + 1, api.MaxPayload + 2, 2 * api.MaxPayload, 65535, 65536, 65537, 65536 + api.MaxPayload, 1 << 20} {
		if f, e := wire.Seal(payload(size)); len(f) != 0 || !errors.Is(e, api.TooMany) {
			t.Errorf("%v bytes: %v of the frame, %v", size, len(f), e)
		}
	}
}

// P3.2: the payload, of frames that are made here.
func TestOpen(t *testing.T) {
	for _, size := range edgeSizes() {
		if b, e := wire.Open(frame(payload(size))); e != nil || !bytes.Equal(b, payload(size)) {
			t.Errorf("%v bytes: %v of them, %v", size, len(b), e)
		}
	}
	if b, e := wire.Open([]byte{0, 0, 0x41, 0xD9, 0x12, 0xFF}); e != nil || len(b) != 0 {
		t.Errorf("6 bytes: %v %v", b, e)
	}
}

// P3.2: fewer than 6 bytes, whatever they are.
func TestOpenOfFewBytes(t *testing.T) {
	refused(t, "nil", nil, api.BadFrame)
	for size := range 6 {
		refused(t, "of a frame without payload", frame(nil)[:size], api.BadFrame)
		refused(t, "of a frame with a payload", frame(payload(9))[:size], api.BadFrame)
		refused(t, "zeros", make([]byte, size), api.BadFrame)
		refused(t, "ones", bytes.Repeat([]byte{255}, size), api.BadFrame)
	}
	// What is here is the sum of what is ahead, so that the size alone is wrong.
	refused(t, "a sum of nothing", summed(nil), api.BadFrame)
	refused(t, "a sum of one byte", summed([]byte{0}), api.BadFrame)
	// 65535 and 6 are 5 where numbers have 16 bits.
	refused(t, "5 bytes that say 65535", summed([]byte{255}), api.BadFrame)
}

// P3.2: the length says less or more than there is; the sum is right, then wrong, too.
func TestOpenOfAnotherLength(t *testing.T) {
	for _, size := range edgeSizes() {
		b := payload(size)
		for _, told := range []int{size - 6, size - 1, size + 1, size + 6, size ^ 256, size ^ 0x8000, size%256*256 + size/256, 65535} {
			if told < 0 || told == size {
				continue
			}
			f := telling(told, b)
			refused(t, "the length alone", f, api.BadFrame)
			refused(t, "the length and the sum", spoiled(f, len(f)-1, 1), api.BadFrame)
		}
		refused(t, "one byte behind", append(frame(b), 0), api.BadFrame)
		refused(t, "twice", slices.Concat(frame(b), frame(b)), api.BadFrame)
		refused(t, "without the last byte", frame(b)[:size+5], api.BadFrame)
		refused(t, "without the first byte", frame(b)[1:], api.BadFrame)
	}
}

// P3.2: the length is the payload's, and more than MaxPayload; or it would be, were it not too great for two bytes.
func TestOpenOfTooMany(t *testing.T) {
	for _, size := range []int{api.MaxPayload + 1, api.MaxPayload + 2, 2 * api.MaxPayload, 65534, 65535} {
		f := frame(payload(size))
		refused(t, "the length", f, api.BadFrame)
		refused(t, "the length and the sum", spoiled(f, len(f)-4, 128), api.BadFrame)
	}
	for _, size := range []int{65536, 65537, 65536 + api.MaxPayload, 1 << 20} {
		refused(t, "beyond two bytes", frame(payload(size)), api.BadFrame)
	}
	// These have no more bytes than a frame may have, but say so.
	refused(t, "few, that say 4097", telling(api.MaxPayload+1, payload(3)), api.BadFrame)
	refused(t, "4096, that say 4097", telling(api.MaxPayload+1, payload(api.MaxPayload)), api.BadFrame)
	refused(t, "4097, that say 4096", telling(api.MaxPayload, payload(api.MaxPayload+1)), api.BadFrame)
}

// P3.2: each of the sum's four bytes, by each of its bits and by all of them.
func TestOpenOfAnotherSum(t *testing.T) {
	for _, size := range edgeSizes() {
		f := frame(payload(size))
		for at := size + 2; at < size+6; at++ {
			for _, by := range []byte{1, 2, 4, 8, 16, 32, 64, 128, 255} {
				refused(t, "one byte", spoiled(f, at, by), api.BadSum)
			}
		}
		refused(t, "all of them", spoiled(f, size+2, 255, 255, 255, 255), api.BadSum)
	}
}

// P3.2: sums that aren't of all that is ahead, or aren't told the highest byte first.
func TestOpenOfSumsOfOtherKinds(t *testing.T) {
	for _, size := range []int{1, 9, 256, api.MaxPayload} {
		b, f := payload(size), frame(payload(size))
		turned := bytes.Clone(f)
		slices.Reverse(turned[size+2:])
		refused(t, "the lowest byte first", turned, api.BadSum)
		refused(t, "of the payload alone", slices.Concat(f[:2], summed(b)), api.BadSum)
		refused(t, "none", slices.Concat(f[:size+2], make([]byte, 4)), api.BadSum)
	}
	refused(t, "6 bytes, all 0", make([]byte, 6), api.BadSum)
}

// P3.3: of every size that may be, the frame is opened to the payload.
func TestOpenOfWhatIsSealed(t *testing.T) {
	all := payload(api.MaxPayload)
	for size := range api.MaxPayload + 1 {
		f, e := wire.Seal(all[:size])
		if e != nil {
			t.Fatalf("%v bytes: %v", size, e)
		}
		if b, e := wire.Open(f); e != nil || !bytes.Equal(b, all[:size]) {
			t.Fatalf("%v bytes: %v of them, %v", size, len(b), e)
		}
	}
}

// whatAlters is the code that is due where the bytes from a place on are altered: those of the length come first.
func whatAlters(at int) api.Code {
	if at < 2 {
		return api.BadFrame
	}
	return api.BadSum
}

// fewFrames is frames of the least payloads, and of such as are easily taken for a length or a sum.
func fewFrames() [][]byte {
	return [][]byte{frame(nil), frame([]byte{0}), frame([]byte{255}), frame([]byte("123456789")), frame(make([]byte, 6))}
}

// P3.3: one byte, anywhere, altered in every way.
func TestOpenWithOneByteAltered(t *testing.T) {
	for _, f := range append(fewFrames(), frame(payload(257))) {
		for at := range f {
			for by := 1; by < 256; by++ {
				refused(t, "one byte", spoiled(f, at, byte(by)), whatAlters(at))
			}
		}
	}
}

// P3.3: two neighbouring bytes, anywhere, altered in every way: also the length's last and the payload's first, the payload's last and the sum's first.
func TestOpenWithTwoBytesAltered(t *testing.T) {
	for _, f := range fewFrames() {
		for at := range len(f) - 1 {
			for by := 1; by < 256; by++ {
				for by2 := 1; by2 < 256; by2++ {
					refused(t, "two bytes", spoiled(f, at, byte(by), byte(by2)), whatAlters(at))
				}
			}
		}
	}
}

// P3.3: one byte and two, anywhere in the greatest frame.
func TestOpenOfTheGreatestAltered(t *testing.T) {
	f := frame(payload(api.MaxPayload))
	for at := range len(f) - 1 {
		for _, by := range [][]byte{{1}, {128}, {255}, {1, 128}, {128, 1}, {255, 255}} {
			refused(t, "the greatest frame", spoiled(f, at, by...), whatAlters(at))
		}
	}
	refused(t, "the greatest frame, at last", spoiled(f, len(f)-1, 1), api.BadSum)
}

// P3.3: the payload's last byte and the sum's first, in the greatest frame.
func TestOpenOfTheGreatestAlteredAtTheSum(t *testing.T) {
	f := frame(payload(api.MaxPayload))
	for by := 1; by < 256; by++ {
		for _, by2 := range []byte{1, 2, 4, 8, 16, 32, 64, 128, 0x55, 0xAA, 255, byte(by)} {
			refused(t, "payload and sum", spoiled(f, api.MaxPayload+1, byte(by), by2), api.BadSum)
		}
	}
}

// Rule 3: what is handed in stays, its spare room too, and what is answered isn't bound to it.
func TestArgumentsStay(t *testing.T) {
	for _, size := range []int{0, 1, 9, api.MaxPayload, api.MaxPayload + 1} {
		f := append(frame(payload(size)), payload(20)...)
		was := bytes.Clone(f)
		for name, call := range map[string]func() ([]byte, error){
			"Seal":              func() ([]byte, error) { return wire.Seal(f[2 : 2+size]) },
			"Open":              func() ([]byte, error) { return wire.Open(f[:size+6]) },
			"Open, one too few": func() ([]byte, error) { return wire.Open(f[:size+5]) },
			"Sum":               func() ([]byte, error) { wire.Sum(f[:size]); return nil, nil },
		} {
			b, _ := call()
			for i := range b[:cap(b)] {
				b[:cap(b)][i] ^= 255
			}
			if !bytes.Equal(f, was) {
				t.Fatalf("%s, %v bytes: what was handed in is changed", name, size)
			}
		}
	}
}

// Rule 4: what a call answers hangs on its arguments alone, not on calls ahead of it.
func TestCallsAreAlone(t *testing.T) {
	b := payload(300)
	first, _ := wire.Seal(b)
	was := bytes.Clone(first)
	wire.Seal(payload(301))
	wire.Open(spoiled(first, 5, 1))
	again, e := wire.Seal(b)
	if e != nil || !bytes.Equal(again, was) || !bytes.Equal(first, was) {
		t.Error("the second frame, or what is left of the first one, is another")
	}
}
