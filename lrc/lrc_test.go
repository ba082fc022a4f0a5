package lrc

import (
	"bytes"
	"testing"
)

// rest is what all bytes make together, modulo 256, added without wrap-round.
func rest(b []byte) int {
	n := 0
	for _, x := range b {
		n += int(x)
	}
	return n % 256
}

// some is n bytes that look like no pattern, the same ones each time.
func some(n int) []byte {
	b := make([]byte, n)
	x := uint32(n)*2654435761 + 1
	for i := range b {
		x = x*1664525 + 1013904223
		b[i] = byte(x >> 24)
	}
	return b
}

// with is bytes and a further one behind them, in memory of its own.
func with(b []byte, x byte) []byte {
	return append(append([]byte{}, b...), x)
}

// P2.1, Of: the chapter's example, no bytes, one byte, and sums about 256 and beyond it.
func TestOfExamples(t *testing.T) {
	for _, c := range []struct {
		b    []byte
		want uint8
	}{
		{nil, 0},
		{[]byte{}, 0},
		{[]byte{0}, 0},
		{[]byte{1}, 255},
		{[]byte{255}, 1},
		{[]byte{1, 2}, 253},
		{[]byte{1, 7}, 248}, // DOC.md's second example of the whole: F8
		{[]byte{127, 128}, 1},
		{[]byte{128, 128}, 0},
		{[]byte{128, 129}, 255},
		{[]byte{255, 255}, 2},
		{[]byte{255, 255, 2}, 0},
		{bytes.Repeat([]byte{255}, 256), 0},
		{bytes.Repeat([]byte{255}, 257), 1},
		{bytes.Repeat([]byte{1}, 256), 0},
		{bytes.Repeat([]byte{0}, 300), 0},
	} {
		if got := Of(c.b); got != c.want {
			t.Errorf("Of(%v) = %d, want %d", c.b, got, c.want)
		}
	}
}

// P2.1, Of: what it tells makes 0 with the bytes, for all of one byte and of two, and longer ones.
func TestOfMakesZero(t *testing.T) {
	for i := range 1 << 16 {
		for _, b := range [][]byte{{byte(i)}, {byte(i), byte(i >> 8)}} {
			if got := Of(b); (rest(b)+int(got))%256 != 0 {
				t.Fatalf("Of(%v) = %d, together not 0", b, got)
			}
		}
	}
	for n := range 600 {
		b := some(n)
		if got := Of(b); (rest(b)+int(got))%256 != 0 {
			t.Fatalf("Of of %d bytes = %d, together not 0", n, got)
		}
	}
	b := some(1 << 20)
	if got := Of(b); (rest(b)+int(got))%256 != 0 {
		t.Errorf("Of of %d bytes = %d, together not 0", len(b), got)
	}
}

// P2.1, Is: no bytes make 0 together, but there must be one at least.
func TestIsOfNone(t *testing.T) {
	if Is(nil) || Is([]byte{}) {
		t.Error("no bytes are taken")
	}
}

// P2.1, Is: of all single bytes 0 alone is taken.
func TestIsOfOne(t *testing.T) {
	for i := range 256 {
		if got, want := Is([]byte{byte(i)}), i == 0; got != want {
			t.Errorf("Is(%d) = %v, want %v", i, got, want)
		}
	}
}

// P2.1, Is: the chapter's example, sums of 256 and beyond it, and bytes that do not make 0.
func TestIsExamples(t *testing.T) {
	for _, c := range []struct {
		b    []byte
		want bool
	}{
		{[]byte{1, 2, 253}, true},
		{[]byte{253, 2, 1}, true}, // it is all bytes together, in whatever order
		{[]byte{1, 7, 248}, true},
		{[]byte{0, 0}, true},
		{[]byte{128, 128}, true},
		{[]byte{255, 255, 2}, true},
		{bytes.Repeat([]byte{255}, 256), true},
		{bytes.Repeat([]byte{64}, 1024), true},
		{[]byte{1, 2}, false},
		{[]byte{1, 2, 252}, false},
		{[]byte{1, 2, 254}, false},
		{[]byte{1, 2, 3}, false}, // the plain sum isn't the one that makes 0
		{[]byte{1, 2, 253, 1}, false},
		{[]byte{2, 253}, false},
		{[]byte{255, 255, 1}, false},
		{bytes.Repeat([]byte{255}, 255), false},
	} {
		if got := Is(c.b); got != c.want {
			t.Errorf("Is(%v) = %v, want %v", c.b, got, c.want)
		}
	}
}

// P2.1, Is: all of two bytes, and longer ones, by the definition.
func TestIsByDefinition(t *testing.T) {
	for i := range 1 << 16 {
		b := []byte{byte(i), byte(i >> 8)}
		if got, want := Is(b), rest(b) == 0; got != want {
			t.Fatalf("Is(%v) = %v, want %v", b, got, want)
		}
	}
	for n := 1; n < 600; n++ {
		b := some(n)
		if got, want := Is(b), rest(b) == 0; got != want {
			t.Fatalf("Is of %d bytes = %v, want %v", n, got, want)
		}
	}
}

// P2.2: bytes with Of behind them are taken, and with any other byte there they aren't.
func TestBytesWithTheirSum(t *testing.T) {
	for n := range 300 {
		b := some(n)
		sum := Of(b)
		for i := range 256 {
			if got, want := Is(with(b, byte(i))), byte(i) == sum; got != want {
				t.Fatalf("%d bytes with the sum %d, and %d behind: Is = %v", n, sum, i, got)
			}
		}
	}
}

// P2.2: with one byte that is another one they aren't taken, whichever it is, and whatever it became.
func TestOneOtherByteIsSeen(t *testing.T) {
	for _, b := range [][]byte{nil, {0}, {1, 2}, {1, 7}, {255, 255, 255}, some(254)} {
		whole := with(b, Of(b))
		for place, was := range whole {
			for i := range 256 {
				other := append([]byte{}, whole...)
				other[place] = byte(i)
				if got, want := Is(other), byte(i) == was; got != want {
					t.Fatalf("%v with %d at %d: Is = %v", whole, i, place, got)
				}
			}
		}
	}
}

// R5: what is handed in stays, also behind its end.
func TestMemory(t *testing.T) {
	whole := []byte{1, 2, 253, 9, 9, 9}
	kept := append([]byte{}, whole...)
	Of(whole[:2])
	Is(whole[:2])
	Is(whole[:3])
	if !bytes.Equal(whole, kept) {
		t.Errorf("changed: %v, was %v", whole, kept)
	}
}

// R6: the answer is the same each time, whatever was asked between: no call goes on adding to another's bytes.
func TestSameEachTime(t *testing.T) {
	for range 3 {
		if got := Of([]byte{1, 2}); got != 253 {
			t.Errorf("Of(1 2) = %d, want 253", got)
		}
		if !Is([]byte{1, 2, 253}) || Is([]byte{1, 2, 252}) {
			t.Error("Is tells otherwise than ahead")
		}
		Of([]byte{77})
	}
}
