package hexa

import (
	"bytes"
	"fmt"
	"strings"
	"testing"

	"busbar/api"
)

// some is n bytes that look like no pattern, the same ones each time.
func some(n int) []byte {
	b := make([]byte, n)
	x := uint32(n)*2654435761 + 1
	for i := range b {
		x = x*1664525 + 1013904223
		b[i] = byte(x >> 24)
	}
	return b
}

// number is a digit's number by the chapter's words, worked out without a table.
func number(c byte) int {
	switch {
	case '0' <= c && c <= '9':
		return int(c) - '0'
	case 'A' <= c && c <= 'F':
		return int(c) - 'A' + 10
	}
	return -1
}

// refused asks for ErrHex, and, as R3 says, for no bytes beside it.
func refused(t *testing.T, s string) {
	t.Helper()
	if b, e := Take(s); b != nil || e != api.ErrHex {
		t.Errorf("Take(%q) = %v, %v, want no bytes, ErrHex", s, b, e)
	}
}

// taken asks for bytes, and no error.
func taken(t *testing.T, s string, want []byte) {
	t.Helper()
	if b, e := Take(s); !bytes.Equal(b, want) || e != api.OK {
		t.Errorf("Take(%q) = %v, %v, want %v, OK", s, b, e, want)
	}
}

// P3.1: the first and last digits of both runs, and the signs next to them.
func TestDigitEdges(t *testing.T) {
	for _, c := range []struct {
		sign byte
		want int
	}{
		{'/', -1}, {'0', 0}, {'1', 1}, {'8', 8}, {'9', 9}, {':', -1},
		{'@', -1}, {'A', 10}, {'B', 11}, {'E', 14}, {'F', 15}, {'G', -1},
		{'`', -1}, {'a', -1}, {'f', -1}, {'g', -1},
		{0, -1}, {9, -1}, {10, -1}, {15, -1}, {' ', -1}, {127, -1}, {128, -1}, {'0' + 128, -1}, {255, -1},
	} {
		if got := Digit(c.sign); got != c.want {
			t.Errorf("Digit(%q) = %d, want %d", c.sign, got, c.want)
		}
	}
}

// P3.1: every byte.
func TestDigitOfAll(t *testing.T) {
	for c := range 256 {
		if got, want := Digit(byte(c)), number(byte(c)); got != want {
			t.Errorf("Digit(%d) = %d, want %d", c, got, want)
		}
	}
}

// P3.2, Put: the chapter's example, no bytes, and the edges of a byte; the higher digit is first, the first byte too.
func TestPutExamples(t *testing.T) {
	for _, c := range []struct {
		b    []byte
		want string
	}{
		{nil, ""},
		{[]byte{}, ""},
		{[]byte{10, 255}, "0AFF"},
		{[]byte{0}, "00"},
		{[]byte{255}, "FF"},
		{[]byte{0, 255}, "00FF"},
		{[]byte{255, 0}, "FF00"},
		{[]byte{1}, "01"},
		{[]byte{9}, "09"},
		{[]byte{15}, "0F"},
		{[]byte{16}, "10"},
		{[]byte{144}, "90"},
		{[]byte{160}, "A0"},
		{[]byte{240}, "F0"},
		{[]byte{1, 7, 248}, "0107F8"}, // DOC.md's second example of the whole
		{bytes.Repeat([]byte{171}, 300), strings.Repeat("AB", 300)},
	} {
		if got := Put(c.b); got != c.want {
			t.Errorf("Put(%v) = %q, want %q", c.b, got, c.want)
		}
	}
}

// P3.2, Put: two digits for each byte, of all single bytes, and of longer lists.
func TestPutByDefinition(t *testing.T) {
	for i := range 256 {
		if got, want := Put([]byte{byte(i)}), fmt.Sprintf("%02X", i); got != want {
			t.Errorf("Put(%d) = %q, want %q", i, got, want)
		}
	}
	for n := range 600 {
		b := some(n)
		if got, want := Put(b), fmt.Sprintf("%X", b); got != want {
			t.Fatalf("Put of %d bytes = %q, want %q", n, got, want)
		}
	}
}

// P3.2, Take: no text, the edges of a byte, and ordinary texts.
func TestTakeExamples(t *testing.T) {
	taken(t, "", nil)
	taken(t, "00", []byte{0})
	taken(t, "FF", []byte{255})
	taken(t, "0AFF", []byte{10, 255})
	taken(t, "00FF", []byte{0, 255})
	taken(t, "FF00", []byte{255, 0})
	taken(t, "09", []byte{9})
	taken(t, "90", []byte{144})
	taken(t, "0F", []byte{15})
	taken(t, "F0", []byte{240})
	taken(t, "A9", []byte{169})
	taken(t, "9A", []byte{154})
	taken(t, "0107F8", []byte{1, 7, 248})
	taken(t, strings.Repeat("AB", 300), bytes.Repeat([]byte{171}, 300))
}

// P3.2, Take: all texts of two bytes: the higher digit is first, and both must be digits.
func TestTakeOfAllPairs(t *testing.T) {
	for i := range 1 << 16 {
		s := string([]byte{byte(i >> 8), byte(i)})
		high, low := number(s[0]), number(s[1])
		if high < 0 || low < 0 {
			refused(t, s)
			continue
		}
		taken(t, s, []byte{byte(16*high + low)})
	}
}

// P3.2, Take: an odd number of bytes, all of them digits.
func TestTakeOdd(t *testing.T) {
	for c := range 256 {
		refused(t, string([]byte{byte(c)}))
	}
	for n := 1; n < 600; n += 2 {
		refused(t, strings.Repeat("7", n))
	}
}

// P3.2, Take: bytes are counted, not signs: one that is told in two bytes is no digit, and makes no text odd.
func TestTakeOfWideSigns(t *testing.T) {
	refused(t, "é")
	refused(t, "0é")
	refused(t, "0é0")
	refused(t, "٣")
	refused(t, "\uff10\uff26")
	refused(t, "00\xff0")
}

// P3.2, Take: small letters, marks and blanks that other readers take.
func TestTakeWrong(t *testing.T) {
	for _, s := range []string{
		"0aFF", "0a", "a0", "ff", "0AfF", "0x10", "0X10", "+1", "-1", " 1", "1 ", "01 02 ", "01:2", "0_10", "00\n0", "00\r\n", "\x00\x00", "GG", "/0", "0:", "@0", "0G", "`0",
	} {
		refused(t, s)
	}
}

// P3.2, Take: whichever byte at the first, a middle or the last place, of short texts and of a long one.
func TestTakeOneOtherByte(t *testing.T) {
	for _, b := range [][]byte{{10, 255}, {1, 7, 248}, {0, 0, 0, 0}, some(254)} {
		good := Put(b)
		for _, place := range []int{0, 1, len(good)/2 - 1, len(good) / 2, len(good) - 2, len(good) - 1} {
			for c := range 256 {
				s := good[:place] + string([]byte{byte(c)}) + good[place+1:]
				if number(byte(c)) < 0 {
					refused(t, s)
				} else if _, e := Take(s); e != api.OK {
					t.Errorf("Take(%q) has the error %v", s, e)
				}
			}
		}
	}
}

// P3.3: what is put is taken.
func TestPutIsTaken(t *testing.T) {
	for i := range 1 << 16 {
		b := []byte{byte(i >> 8), byte(i)}
		taken(t, Put(b), b)
	}
	for n := range 600 {
		b := some(n)
		taken(t, Put(b), b)
	}
	b := some(1 << 18)
	if got, e := Take(Put(b)); e != api.OK || !bytes.Equal(got, b) {
		t.Errorf("%d bytes that are put aren't taken", len(b))
	}
}

// P3.3: each list has one text: whatever is taken is put as just that text.
func TestTakenIsPut(t *testing.T) {
	texts := 0
	for i := range 1 << 16 {
		s := string([]byte{byte(i >> 8), byte(i)})
		b, e := Take(s)
		if e != api.OK {
			continue
		}
		texts++
		if got := Put(b); got != s {
			t.Errorf("Take(%q) = %v, which is put as %q", s, b, got)
		}
	}
	if texts != 256 {
		t.Errorf("%d texts of two bytes are taken, want 256", texts)
	}
}

// R5: what is handed in stays, also behind its end; each answer is memory of its own.
func TestMemory(t *testing.T) {
	whole := []byte{1, 2, 253, 9, 9, 9}
	kept := append([]byte{}, whole...)
	s := Put(whole[:3])
	if !bytes.Equal(whole, kept) {
		t.Errorf("changed: %v, was %v", whole, kept)
	}
	whole[0] = 77
	if s != "0102FD" {
		t.Errorf("the text became %q with the bytes", s)
	}
	one, _ := Take(s)
	other, _ := Take(s)
	one[0] = 99
	one = append(one[:1], 88, 88)
	if !bytes.Equal(other, []byte{1, 2, 253}) || s != "0102FD" {
		t.Errorf("with %v changed, another answer is %v, the text %q", one, other, s)
	}
}

// R6: the answer is the same each time, whatever was asked between.
func TestSameEachTime(t *testing.T) {
	for range 3 {
		taken(t, "0AFF", []byte{10, 255})
		refused(t, "0aFF")
		refused(t, "0AF")
		if got := Put([]byte{10, 255}); got != "0AFF" {
			t.Errorf("Put(10 255) = %q, want 0AFF", got)
		}
		if Digit('F') != 15 || Digit('f') != -1 {
			t.Error("Digit tells otherwise than ahead")
		}
	}
}
