package word

import (
	"bytes"
	"math"
	"math/big"
	"slices"
	"testing"
)

// some is n bytes that look like no pattern, the same ones each time.
func some(n int) []byte {
	b := make([]byte, n)
	x := uint32(n)*2654435761 + 1
	for i := range b {
		x = x*1664525 + 1013904223
		b[i] = byte(x >> 24)
	}
	return b
}

// words is n numbers that look like no pattern, the same ones each time.
func words(n int) []uint16 {
	l := make([]uint16, n)
	x := uint32(n)*2654435761 + 7
	for i := range l {
		x = x*1664525 + 1013904223
		l[i] = uint16(x >> 16)
	}
	return l
}

// P4.1, Put: no numbers, the edges of both bytes, several numbers one behind the other, and the chapter's example.
func TestPut(t *testing.T) {
	for _, c := range []struct {
		l    []uint16
		want []byte
	}{
		{nil, nil},
		{[]uint16{}, nil},
		{[]uint16{0}, []byte{0, 0}},
		{[]uint16{1}, []byte{0, 1}},
		{[]uint16{255}, []byte{0, 255}},
		{[]uint16{256}, []byte{1, 0}},
		{[]uint16{32767}, []byte{127, 255}},
		{[]uint16{32768}, []byte{128, 0}},
		{[]uint16{65280}, []byte{255, 0}},
		{[]uint16{65535}, []byte{255, 255}},
		{[]uint16{258, 3}, []byte{1, 2, 0, 3}},
		{[]uint16{3, 258}, []byte{0, 3, 1, 2}},
		{[]uint16{0, 255, 256, 65535}, []byte{0, 0, 0, 255, 1, 0, 255, 255}},
		{[]uint16{7, 7, 7}, []byte{0, 7, 0, 7, 0, 7}},
	} {
		if got := Put(c.l...); !bytes.Equal(got, c.want) {
			t.Errorf("Put(%v) = %v, want %v", c.l, got, c.want)
		}
	}
}

// P4.1, Put: numbers handed in one by one are the same as a list of them.
func TestPutOneByOne(t *testing.T) {
	if b := Put(); len(b) != 0 {
		t.Errorf("Put() = %v, want no bytes", b)
	}
	if b := Put(258, 3); !bytes.Equal(b, []byte{1, 2, 0, 3}) {
		t.Errorf("Put(258, 3) = %v, want 1 2 0 3", b)
	}
}

// P4.1, Take: no bytes, the edges of both bytes, several numbers one behind the other.
func TestTake(t *testing.T) {
	for _, c := range []struct {
		b    []byte
		want []uint16
	}{
		{nil, nil},
		{[]byte{}, nil},
		{[]byte{0, 0}, []uint16{0}},
		{[]byte{0, 255}, []uint16{255}},
		{[]byte{1, 0}, []uint16{256}},
		{[]byte{128, 0}, []uint16{32768}},
		{[]byte{255, 0}, []uint16{65280}},
		{[]byte{255, 255}, []uint16{65535}},
		{[]byte{1, 2, 0, 3}, []uint16{258, 3}},
		{[]byte{0, 0, 0, 255, 1, 0, 255, 255}, []uint16{0, 255, 256, 65535}},
	} {
		if got := Take(c.b); !slices.Equal(got, c.want) {
			t.Errorf("Take(%v) = %v, want %v", c.b, got, c.want)
		}
	}
}

// P4.1, Take: an odd number of bytes is no numbers at all, neither those ahead of the odd byte nor those behind it.
func TestTakeOdd(t *testing.T) {
	for n := 1; n < 600; n += 2 {
		if l := Take(some(n)); len(l) != 0 {
			t.Errorf("Take of %d bytes = %v, want none", n, l)
		}
	}
	for _, b := range [][]byte{{0}, {255}, {0, 0, 0}, {1, 2, 3}} {
		if l := Take(b); len(l) != 0 {
			t.Errorf("Take(%v) = %v, want none", b, l)
		}
	}
}

// P4.1: every number alone, in both ways.
func TestEveryNumber(t *testing.T) {
	for n := range 65536 {
		b := []byte{byte(n / 256), byte(n % 256)}
		if got := Put(uint16(n)); !bytes.Equal(got, b) {
			t.Fatalf("Put(%d) = %v, want %v", n, got, b)
		}
		if got := Take(b); !slices.Equal(got, []uint16{uint16(n)}) {
			t.Fatalf("Take(%v) = %v, want %d", b, got, n)
		}
	}
}

// P4.2: counts of 0, of 1 and below 0; sums of 65535, 65536 and 65537; the chapter's examples.
func TestWithin(t *testing.T) {
	for _, c := range []struct {
		addr  uint16
		count int
		want  bool
	}{
		{0, 0, false}, {0, 1, true}, {0, -1, false}, {0, 2, true},
		{5, 0, false}, {5, 1, true}, {5, -1, false}, {5, -5, false}, {5, -6, false},
		{65535, 0, false}, {65535, 1, true}, {65535, 2, false}, {65535, -1, false},
		{0, 65535, true}, {0, 65536, true}, {0, 65537, false},
		{1, 65534, true}, {1, 65535, true}, {1, 65536, false},
		{1000, 64535, true}, {1000, 64536, true}, {1000, 64537, false},
		{32768, 32767, true}, {32768, 32768, true}, {32768, 32769, false},
		{65534, 1, true}, {65534, 2, true}, {65534, 3, false},
	} {
		if got := Within(c.addr, c.count); got != c.want {
			t.Errorf("Within(%d, %d) = %v, want %v", c.addr, c.count, got, c.want)
		}
	}
}

// P4.2: counts that wrap round, if they are cut to fewer bits, or if addr is added to them.
func TestWithinFarCounts(t *testing.T) {
	far := []int{
		1<<16 + 1, 1<<17 + 1, 1<<31 - 1, 1 << 31, 1<<31 + 1, 1<<32 - 1, 1 << 32, 1<<32 + 1, 1 << 48, 1<<48 + 1, 1 << 62,
		math.MaxInt, math.MaxInt - 1, math.MaxInt - 65534, math.MaxInt - 65535, math.MaxInt - 65536,
		math.MinInt, math.MinInt + 1, math.MinInt + 65535, math.MinInt + 65536, math.MinInt + 65537,
		-1 << 16, -1<<16 + 1, -1 << 31, -1<<32 + 1, -65535, -65536, -65537,
	}
	for _, addr := range []uint16{0, 1, 2, 5, 255, 256, 32767, 32768, 65534, 65535} {
		for _, count := range far {
			if Within(addr, count) {
				t.Errorf("Within(%d, %d) = true, want false", addr, count)
			}
		}
	}
}

// P4.2: of every place the last count that is there, and the first one that isn't, by a sum that can't wrap round.
func TestWithinEveryPlace(t *testing.T) {
	limit := big.NewInt(65536)
	for addr := range 65536 {
		for _, count := range []int{-addr, -1, 0, 1, 65535 - addr, 65536 - addr, 65537 - addr} {
			sum := big.NewInt(int64(addr))
			sum.Add(sum, big.NewInt(int64(count)))
			want := count > 0 && sum.Cmp(limit) <= 0
			if got := Within(uint16(addr), count); got != want {
				t.Fatalf("Within(%d, %d) = %v, want %v", addr, count, got, want)
			}
		}
	}
}

// P4.3: what is put is taken; and bytes of an even number, taken, are put as they were.
func TestBothWays(t *testing.T) {
	for n := range 300 {
		l := words(n)
		b := Put(l...)
		if len(b) != 2*n {
			t.Fatalf("Put of %d numbers is %d bytes", n, len(b))
		}
		if got := Take(b); !slices.Equal(got, l) {
			t.Fatalf("Take(Put) of %d numbers = %v, want %v", n, got, l)
		}
		raw := some(2 * n)
		if got := Put(Take(raw)...); !bytes.Equal(got, raw) {
			t.Fatalf("Put(Take) of %d bytes = %v, want %v", 2*n, got, raw)
		}
	}
}

// P4.3: a long list.
func TestBothWaysLong(t *testing.T) {
	l := words(100000)
	if got := Take(Put(l...)); !slices.Equal(got, l) {
		t.Error("a list of 100000 numbers isn't taken as it was put")
	}
}

// R5: what is handed in isn't changed, nor shared with what is answered.
func TestMemory(t *testing.T) {
	l := words(40)
	b := Put(l...)
	if !slices.Equal(l, words(40)) {
		t.Error("Put changes the numbers")
	}
	was := bytes.Clone(b)
	clear(l)
	if !bytes.Equal(b, was) {
		t.Error("Put's answer hangs on the list that was handed in")
	}
	taken := Take(b)
	if !bytes.Equal(b, was) {
		t.Error("Take changes the bytes")
	}
	clear(b)
	if !slices.Equal(taken, words(40)) {
		t.Error("Take's answer hangs on the bytes that were handed in")
	}
}

// R5, R6: two answers to the same question are the same, and don't share memory.
func TestAnswersAreNew(t *testing.T) {
	l := words(9)
	first, second := Put(l...), Put(l...)
	clear(first)
	_ = append(first[:0], 1, 2, 3)
	third := Put(l...)
	if !bytes.Equal(second, third) || !slices.Equal(Take(second), l) {
		t.Error("Put's answers share memory")
	}
	one, two := Take(second), Take(second)
	clear(one)
	if !slices.Equal(two, l) || !slices.Equal(Take(second), l) {
		t.Error("Take's answers share memory")
	}
}
