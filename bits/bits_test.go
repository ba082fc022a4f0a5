package bits

import (
	"bytes"
	"math"
	"math/big"
	"slices"
	"testing"
)

// some is n bytes that look like no pattern, the same ones each time.
func some(n int) []byte {
	b := make([]byte, n)
	x := uint32(n)*2654435761 + 1
	for i := range b {
		x = x*1664525 + 1013904223
		b[i] = byte(x >> 24)
	}
	return b
}

// flags is n bits that look like no pattern, the same ones each time.
func flags(n int) []bool {
	l := make([]bool, n)
	for i, x := range some(n) {
		l[i] = x >= 128
	}
	return l
}

// all is n bits that are all the same.
func all(n int, bit bool) []bool {
	return slices.Repeat([]bool{bit}, n)
}

// P5.1, Many: below 0, 0, both sides of a whole byte, and the far ends of an int.
func TestMany(t *testing.T) {
	for _, c := range []struct{ n, want int }{
		{math.MinInt, 0}, {math.MinInt + 1, 0}, {-9, 0}, {-8, 0}, {-7, 0}, {-1, 0},
		{0, 0}, {1, 1}, {2, 1}, {7, 1}, {8, 1}, {9, 2}, {15, 2}, {16, 2}, {17, 3},
		{1968, 246}, {1969, 247}, {2000, 250}, {2001, 251},
		{1 << 32, 1 << 29}, {1<<32 + 1, 1<<29 + 1},
		{math.MaxInt - 8, 1<<60 - 1}, {math.MaxInt - 7, 1<<60 - 1}, {math.MaxInt - 6, 1 << 60}, {math.MaxInt - 1, 1 << 60}, {math.MaxInt, 1 << 60},
	} {
		if got := Many(c.n); got != c.want {
			t.Errorf("Many(%d) = %d, want %d", c.n, got, c.want)
		}
	}
}

// P5.1, Many: the least number of bytes that has room for n bits, by numbers that can't wrap round.
func TestManyIsTheLeast(t *testing.T) {
	enough := func(many, n int) bool {
		room := new(big.Int).Mul(big.NewInt(int64(many)), big.NewInt(8))
		return room.Cmp(big.NewInt(int64(n))) >= 0
	}
	check := func(n int) {
		if m := Many(n); !enough(m, n) || enough(m-1, n) {
			t.Errorf("Many(%d) = %d isn't the least with room", n, m)
		}
	}
	for n := 1; n <= 5000; n++ {
		check(n)
		check(math.MaxInt - n + 1)
	}
}

// P5.1, Pack: no bits, numbers that fill their bytes and that don't, all bits 0 and all bits 1, and the chapter's example.
func TestPack(t *testing.T) {
	for _, c := range []struct {
		l    []bool
		want []byte
	}{
		{nil, nil},
		{[]bool{}, nil},
		{[]bool{false}, []byte{0}},
		{[]bool{true}, []byte{1}},
		{[]bool{true, false, true}, []byte{5}},
		{[]bool{true, true, false}, []byte{3}},
		{[]bool{false, true, true}, []byte{6}},
		{[]bool{false, false, false, false, false, false, false, true}, []byte{128}},
		{[]bool{true, false, false, false, false, false, false, true}, []byte{129}},
		{append(all(8, false), true), []byte{0, 1}},
		{append(all(8, true), false), []byte{255, 0}},
		{append(all(15, false), true, true), []byte{0, 128, 1}},
		{all(1, true), []byte{1}}, {all(7, true), []byte{127}}, {all(8, true), []byte{255}},
		{all(9, true), []byte{255, 1}}, {all(15, true), []byte{255, 127}},
		{all(16, true), []byte{255, 255}}, {all(17, true), []byte{255, 255, 1}},
		{all(7, false), []byte{0}}, {all(8, false), []byte{0}}, {all(9, false), []byte{0, 0}},
		{all(16, false), []byte{0, 0}}, {all(17, false), []byte{0, 0, 0}},
	} {
		if got := Pack(c.l); !bytes.Equal(got, c.want) {
			t.Errorf("Pack(%v) = %v, want %v", c.l, got, c.want)
		}
	}
}

// P5.1, Pack: where each bit alone goes, with nothing else beside it.
func TestPackOneBit(t *testing.T) {
	values := []byte{1, 2, 4, 8, 16, 32, 64, 128}
	for n := 1; n <= 40; n++ {
		for i := range n {
			l := make([]bool, n)
			l[i] = true
			want := make([]byte, Many(n))
			want[i/8] = values[i%8]
			if got := Pack(l); !bytes.Equal(got, want) {
				t.Fatalf("Pack of bit %d of %d = %v, want %v", i, n, got, want)
			}
		}
	}
}

// P5.1, Pack: bytes told by sums of their bits' values, of many lengths.
func TestPackSums(t *testing.T) {
	for n := range 300 {
		l := flags(n)
		var want []byte
		for eight := range slices.Chunk(l, 8) {
			sum, value := 0, 1
			for _, bit := range eight {
				if bit {
					sum += value
				}
				value *= 2
			}
			want = append(want, byte(sum))
		}
		if got := Pack(l); !bytes.Equal(got, want) {
			t.Fatalf("Pack of %d bits = %v, want %v", n, got, want)
		}
	}
}

// P5.2: bits that are there, and the chapter's example.
func TestUnpack(t *testing.T) {
	for _, c := range []struct {
		b    []byte
		n    int
		want []bool
	}{
		{nil, 0, nil},
		{[]byte{}, 0, nil},
		{[]byte{0}, 1, []bool{false}},
		{[]byte{1}, 1, []bool{true}},
		{[]byte{5}, 3, []bool{true, false, true}},
		{[]byte{5}, 4, []bool{true, false, true, false}},
		{[]byte{127}, 7, all(7, true)},
		{[]byte{128}, 8, append(all(7, false), true)},
		{[]byte{255}, 8, all(8, true)},
		{[]byte{255, 1}, 9, all(9, true)},
		{[]byte{0, 1}, 9, append(all(8, false), true)},
		{[]byte{255, 0}, 9, append(all(8, true), false)},
		{[]byte{0, 0}, 16, all(16, false)},
		{[]byte{255, 255}, 16, all(16, true)},
	} {
		got, ok := Unpack(c.b, c.n)
		if !ok || !slices.Equal(got, c.want) {
			t.Errorf("Unpack(%v, %d) = %v, %v, want %v", c.b, c.n, got, ok, c.want)
		}
	}
}

// P5.2, R3: too few bytes and too many, an n below 0, an n of 0 with a byte, a bit beyond the n: none, and false.
func TestUnpackWrong(t *testing.T) {
	for _, c := range []struct {
		b []byte
		n int
	}{
		{nil, 1}, {nil, 8}, {nil, 9}, {[]byte{}, 1}, {nil, math.MaxInt},
		{[]byte{0}, 9}, {[]byte{255}, 16}, {[]byte{1, 2}, 17}, {[]byte{0}, math.MaxInt}, {[]byte{0}, math.MaxInt - 7},
		{[]byte{0, 0}, 1}, {[]byte{0, 0}, 8}, {[]byte{1, 2}, 8}, {[]byte{0, 0, 0}, 16},
		{nil, -1}, {[]byte{}, -1}, {nil, -8}, {nil, math.MinInt}, {nil, math.MinInt + 1},
		{[]byte{0}, -1}, {[]byte{0}, -7}, {[]byte{0}, -8}, {[]byte{0}, math.MinInt}, {[]byte{0, 0}, -9},
		{[]byte{0}, 0}, {[]byte{1}, 0}, {[]byte{0, 0}, 0},
		{[]byte{13}, 3}, {[]byte{8}, 3}, {[]byte{128}, 3}, {[]byte{2}, 1}, {[]byte{128}, 7}, {[]byte{255}, 7},
		{[]byte{1, 2}, 9}, {[]byte{1, 6}, 10}, {[]byte{0, 128}, 9}, {[]byte{0, 128}, 15},
	} {
		got, ok := Unpack(c.b, c.n)
		if ok || len(got) != 0 {
			t.Errorf("Unpack(%v, %d) = %v, %v, want none and false", c.b, c.n, got, ok)
		}
	}
}

// P5.2: every two bytes at every number of bits: those of which they are the Pack, or none.
func TestUnpackTwoBytes(t *testing.T) {
	for x := range 65536 {
		b := []byte{byte(x), byte(x >> 8)}
		for n := 7; n <= 18; n++ {
			want := n >= 9 && n <= 16 && x < 1<<n
			got, ok := Unpack(b, n)
			if ok != want || !ok && len(got) != 0 {
				t.Fatalf("Unpack(%v, %d) = %v, %v, want %v", b, n, got, ok, want)
			}
			if ok && (len(got) != n || !bytes.Equal(Pack(got), b)) {
				t.Fatalf("Unpack(%v, %d) = %v, of which it isn't the Pack", b, n, got)
			}
		}
	}
}

// P5.3: what is packed is unpacked, and of no other number of bytes.
func TestBothWays(t *testing.T) {
	for n := range 600 {
		for _, l := range [][]bool{flags(n), all(n, false), all(n, true)} {
			b := Pack(l)
			if len(b) != Many(n) {
				t.Fatalf("Pack of %d bits is %d bytes", n, len(b))
			}
			if got, ok := Unpack(b, n); !ok || !slices.Equal(got, l) {
				t.Fatalf("Unpack(Pack) of %d bits = %v, %v, want %v", n, got, ok, l)
			}
			if got, ok := Unpack(append(b, 0), n); ok || len(got) != 0 {
				t.Fatalf("Unpack of %d bits with a byte too many = %v, %v", n, got, ok)
			}
		}
	}
}

// P5.3: a long list.
func TestBothWaysLong(t *testing.T) {
	l := flags(1000003)
	if got, ok := Unpack(Pack(l), len(l)); !ok || !slices.Equal(got, l) {
		t.Error("a list of 1000003 bits isn't unpacked as it was packed")
	}
}

// R5: what is handed in isn't changed, nor shared with what is answered.
func TestMemory(t *testing.T) {
	l := flags(43)
	b := Pack(l)
	if !slices.Equal(l, flags(43)) {
		t.Error("Pack changes the bits")
	}
	was := bytes.Clone(b)
	clear(l)
	if !bytes.Equal(b, was) {
		t.Error("Pack's answer hangs on the list that was handed in")
	}
	got, _ := Unpack(b, 43)
	if !bytes.Equal(b, was) {
		t.Error("Unpack changes the bytes")
	}
	clear(b)
	if !slices.Equal(got, flags(43)) {
		t.Error("Unpack's answer hangs on the bytes that were handed in")
	}
}

// R5, R6: two answers to the same question are the same, and don't share memory.
func TestAnswersAreNew(t *testing.T) {
	l := flags(21)
	first, second := Pack(l), Pack(l)
	clear(first)
	if !bytes.Equal(second, Pack(l)) {
		t.Error("Pack's answers share memory")
	}
	one, _ := Unpack(second, 21)
	two, _ := Unpack(second, 21)
	clear(one)
	if three, ok := Unpack(second, 21); !ok || !slices.Equal(two, l) || !slices.Equal(three, l) {
		t.Error("Unpack's answers share memory")
	}
}
