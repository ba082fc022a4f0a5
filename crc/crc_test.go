package crc

import (
	"bytes"
	"testing"
)

// slow is the sum as the chapter's section Words tells it, bit by bit.
func slow(s uint16, b []byte) uint16 {
	for _, x := range b {
		s ^= uint16(x)
		for range 8 {
			low := s & 1
			s >>= 1
			if low == 1 {
				s ^= 40961
			}
		}
	}
	return s
}

// some is n bytes that look like no pattern, the same ones each time.
func some(n int) []byte {
	b := make([]byte, n)
	x := uint32(n)*2654435761 + 1
	for i := range b {
		x = x*1664525 + 1013904223
		b[i] = byte(x >> 24)
	}
	return b
}

// with is bytes and their sum behind them, in memory of its own.
func with(b []byte) []byte {
	return append(append([]byte{}, b...), Two(slow(65535, b))...)
}

// P1.1, Of: the chapter's examples, and no bytes.
func TestOfExamples(t *testing.T) {
	for _, c := range []struct {
		b    []byte
		want uint16
	}{
		{nil, 65535},
		{[]byte{}, 65535},
		{[]byte("123456789"), 19255},
		{[]byte{1, 4, 2, 255, 255}, 32952},
		{[]byte{1, 7}, 65 + 226<<8}, // DOC.md's first example of the whole
		{[]byte{0}, 16575},
		{[]byte{255}, 255},
	} {
		if got := Of(c.b); got != c.want {
			t.Errorf("Of(%v) = %d, want %d", c.b, got, c.want)
		}
	}
}

// P1.1, Of: all of one byte and of two, and longer ones, by the definition.
func TestOfByDefinition(t *testing.T) {
	for i := range 1 << 16 {
		for _, b := range [][]byte{{byte(i)}, {byte(i), byte(i >> 8)}} {
			if got, want := Of(b), slow(65535, b); got != want {
				t.Fatalf("Of(%v) = %d, want %d", b, got, want)
			}
		}
	}
	for n := range 600 {
		b := some(n)
		if got, want := Of(b), slow(65535, b); got != want {
			t.Fatalf("Of of %d bytes = %d, want %d", n, got, want)
		}
	}
	b := some(1 << 20)
	if got, want := Of(b), slow(65535, b); got != want {
		t.Errorf("Of of %d bytes = %d, want %d", len(b), got, want)
	}
}

// P1.1, Then: bytes cut anywhere have the sum of the whole.
func TestThenGoesOn(t *testing.T) {
	b := some(64)
	for i := range len(b) + 1 {
		for j := i; j <= len(b); j++ {
			if got := Then(Then(Of(b[:i]), b[i:j]), b[j:]); got != Of(b) {
				t.Fatalf("cut at %d and %d: %d, want %d", i, j, got, Of(b))
			}
		}
	}
}

// P1.1, Then: any number is taken for a sum.
func TestThenOfAnySum(t *testing.T) {
	b := some(5)
	for i := range 1 << 16 {
		s := uint16(i)
		if Then(s, nil) != s || Then(s, []byte{}) != s {
			t.Fatalf("Then(%d, none) is another sum", s)
		}
		for _, x := range []byte{0, 1, 127, 128, 254, 255, byte(s), ^byte(s)} {
			if got, want := Then(s, []byte{x}), slow(s, []byte{x}); got != want {
				t.Fatalf("Then(%d, %d) = %d, want %d", s, x, got, want)
			}
		}
		if got, want := Then(s, b), slow(s, b); got != want {
			t.Fatalf("Then(%d, %v) = %d, want %d", s, b, got, want)
		}
	}
}

// P1.1, Two: the lower byte first, of every number.
func TestTwo(t *testing.T) {
	for i := range 1 << 16 {
		if got, want := Two(uint16(i)), []byte{byte(i % 256), byte(i / 256)}; !bytes.Equal(got, want) {
			t.Fatalf("Two(%d) = %v, want %v", i, got, want)
		}
	}
}

// P1.1, Is: with fewer than two bytes there is no sum.
func TestIsTooShort(t *testing.T) {
	if Is(nil) || Is([]byte{}) {
		t.Error("no bytes are taken")
	}
	for i := range 256 {
		if Is([]byte{byte(i)}) {
			t.Errorf("one byte %d is taken", i)
		}
	}
}

// P1.1, Is: two bytes are the sum of none, and just 255 255 is that.
func TestIsOfTwo(t *testing.T) {
	for i := range 1 << 16 {
		b := []byte{byte(i), byte(i >> 8)}
		if got, want := Is(b), i == 65535; got != want {
			t.Fatalf("Is(%v) = %v, want %v", b, got, want)
		}
	}
}

// P1.1, Is: of all two bytes that may stand behind others, their sum alone is taken.
func TestIsOfItsSumAlone(t *testing.T) {
	for _, b := range [][]byte{{0}, {1, 7}, {1, 4, 2, 255, 255}, []byte("123456789"), some(254)} {
		sum := slow(65535, b)
		for i := range 1 << 16 {
			if got, want := Is(append(b[:len(b):len(b)], byte(i), byte(i>>8))), uint16(i) == sum; got != want {
				t.Fatalf("Is(%v, and %d) = %v, want %v", b, i, got, want)
			}
		}
	}
}

// P1.1, Is: a sum that is ahead, of too little, or with more behind it isn't one at the end.
func TestIsAtTheEndAlone(t *testing.T) {
	if !Is([]byte{1, 7, 65, 226}) {
		t.Error("1 7 65 226 isn't taken")
	}
	for _, b := range [][]byte{
		{1, 7, 226, 65},
		{65, 226, 1, 7},
		{1, 7, 65},
		{7, 65, 226},
		{1, 7, 65, 226, 1},
		{7, 1, 65, 226},
	} {
		if Is(b) {
			t.Errorf("%v is taken", b)
		}
	}
}

// P1.2: bytes with their sum behind them have the sum 0, and are taken.
func TestSumOfBytesWithSum(t *testing.T) {
	for i := range 1 << 16 {
		if b := with([]byte{byte(i), byte(i >> 8)}); Of(b) != 0 || !Is(b) {
			t.Fatalf("%v: sum %d, Is %v", b, Of(b), Is(b))
		}
	}
	for n := range 600 {
		if b := with(some(n)); Of(b) != 0 || !Is(b) {
			t.Fatalf("%d bytes: sum %d, Is %v", n, Of(b), Is(b))
		}
	}
	for i := range 1 << 16 {
		if s := uint16(i); Then(s, Two(s)) != 0 {
			t.Fatalf("Then(%d, its two bytes) = %d", s, Then(s, Two(s)))
		}
	}
}

// turn turns the bits of b from a place on where pattern has a bit 1; places are counted as
// the sum takes bits: byte by byte, the lowest bit of each first. What lies beyond b is left out.
func turn(b []byte, place int, pattern uint16) []byte {
	out := append([]byte{}, b...)
	for k := range 16 {
		if i := place + k; pattern>>k&1 == 1 && i < 8*len(b) {
			out[i/8] ^= 1 << (i % 8)
		}
	}
	return out
}

// P1.2: whatever is turned within 16 bits side by side is seen, in the bytes and in their sum.
func TestTurnedBitsAreSeen(t *testing.T) {
	b := with([]byte{1, 4, 2, 255, 0})
	for place := range 8 * len(b) {
		// A pattern begins with a bit that is turned: all others begin at a later place.
		for p := 1; p < 1<<16; p += 2 {
			if c := turn(b, place, uint16(p)); Is(c) || Of(c) == 0 {
				t.Fatalf("turned at %d by %#x: %v is taken", place, p, c)
			}
		}
	}
}

// P1.2: so it is in bytes as long as a frame may be, at every place.
func TestTurnedBitsOfLongAreSeen(t *testing.T) {
	b := with(some(254))
	for place := range 8 * len(b) {
		for _, p := range []uint16{1, 3, 0x8001, 0xa001, 0x4003, 0x8005, 0xffff} {
			if c := turn(b, place, p); Is(c) {
				t.Fatalf("turned at %d by %#x: taken", place, p)
			}
		}
	}
}

// R5: what is handed in stays, also behind its end, and each answer is memory of its own.
func TestMemory(t *testing.T) {
	whole := []byte{1, 7, 65, 226, 9, 9, 9}
	kept := append([]byte{}, whole...)
	Of(whole[:2])
	Then(7, whole[:2])
	Is(whole[:2])
	Is(whole[:4])
	if !bytes.Equal(whole, kept) {
		t.Errorf("changed: %v, was %v", whole, kept)
	}
	one, other := Two(0x1234), Two(0x1234)
	one[0], one[1] = 0, 0
	if !bytes.Equal(other, []byte{0x34, 0x12}) || !bytes.Equal(Two(0x1234), other) {
		t.Error("answers of Two share memory")
	}
}

// R6: the answer is the same each time, whatever was asked between.
func TestSameEachTime(t *testing.T) {
	b := some(100)
	first := Of(b)
	Then(1, []byte{2, 3})
	if Of(b) != first {
		t.Error("Of tells another sum the second time")
	}
}
