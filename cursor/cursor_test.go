package cursor

import (
	"bytes"
	"math"
	"math/big"
	"slices"
	"testing"

	"busbar/api"
)

// some is n bytes that look like no pattern, the same ones each time.
func some(n int) []byte {
	b := make([]byte, n)
	x := uint32(n)*2654435761 + 1
	for i := range b {
		x = x*1664525 + 1013904223
		b[i] = byte(x >> 24)
	}
	return b
}

// expect holds what a cursor tells of itself against what it should.
func expect(t *testing.T, what string, c *Cursor, left int, short bool, e api.Errno) {
	t.Helper()
	if c.Left() != left || c.Short() != short || c.Err() != e {
		t.Errorf("%s: Left %d, Short %v, Err %d, want %d, %v, %d", what, c.Left(), c.Short(), c.Err(), left, short, e)
	}
}

// expectNothing asks every read of a cursor that is short, and that it stays as it is.
func expectNothing(t *testing.T, what string, c *Cursor, e api.Errno) {
	t.Helper()
	expect(t, what, c, 0, true, e)
	if x := c.Byte(); x != 0 {
		t.Errorf("%s: then Byte %d, want 0", what, x)
	}
	if x := c.Word(); x != 0 {
		t.Errorf("%s: then Word %d, want 0", what, x)
	}
	for _, n := range []int{0, 1, 2, -1, math.MinInt, math.MaxInt} {
		if b := c.Bytes(n); len(b) != 0 {
			t.Errorf("%s: then Bytes(%d) %v, want none", what, n, b)
		}
		if l := c.Words(n); len(l) != 0 {
			t.Errorf("%s: then Words(%d) %v, want none", what, n, l)
		}
	}
	expect(t, what+", read on", c, 0, true, e)
}

// read is one of the cursor's reads, with what it answered as numbers.
type read struct {
	name string
	size int // how many bytes are asked for
	do   func(c *Cursor) []int
}

func readByte() read {
	return read{"Byte", 1, func(c *Cursor) []int { return []int{int(c.Byte())} }}
}

func readWord() read {
	return read{"Word", 2, func(c *Cursor) []int { return []int{int(c.Word())} }}
}

func readBytes(n int) read {
	return read{"Bytes", n, func(c *Cursor) []int {
		var l []int
		for _, x := range c.Bytes(n) {
			l = append(l, int(x))
		}
		return l
	}}
}

func readWords(n int) read {
	return read{"Words", 2 * n, func(c *Cursor) []int {
		var l []int
		for _, x := range c.Words(n) {
			l = append(l, int(x))
		}
		return l
	}}
}

// P6.1, P6.2: a new cursor, of no bytes and of some.
func TestNew(t *testing.T) {
	expect(t, "of nil", New(nil), 0, false, api.OK)
	expect(t, "of no bytes", New([]byte{}), 0, false, api.OK)
	for _, n := range []int{1, 2, 253, 70000} {
		expect(t, "of some", New(some(n)), n, false, api.OK)
	}
}

// P6.1, P6.2, P6.3: of no bytes, each read that asks for one falls short.
func TestNoBytes(t *testing.T) {
	for _, r := range []read{readByte(), readWord(), readBytes(1), readBytes(2), readWords(1), readWords(2)} {
		for _, b := range [][]byte{nil, {}} {
			c := New(b)
			if l := r.do(c); slices.Max(append(l, 0)) != 0 {
				t.Errorf("%s of no bytes = %v", r.name, l)
			}
			expectNothing(t, r.name+" of no bytes", c, api.ErrShort)
		}
	}
}

// The chapter's example.
func TestExample(t *testing.T) {
	c := New([]byte{1, 2, 3})
	if x := c.Word(); x != 258 {
		t.Errorf("Word = %d, want 258", x)
	}
	expect(t, "behind the first Word", c, 1, false, api.OK)
	if x := c.Word(); x != 0 {
		t.Errorf("Word = %d, want 0", x)
	}
	expectNothing(t, "behind the second Word", c, api.ErrShort)
}

// P6.1, P6.2: the reads one behind the other, each with what it answers and what is left.
func TestReads(t *testing.T) {
	c := New([]byte{7, 1, 2, 255, 254, 253, 0, 1, 128, 0, 9})
	for i, s := range []struct {
		r    read
		want []int
		left int
	}{
		{readByte(), []int{7}, 10},
		{readWord(), []int{258}, 8},
		{readBytes(2), []int{255, 254}, 6},
		{readByte(), []int{253}, 5},
		{readWords(2), []int{1, 32768}, 1},
		{readBytes(1), []int{9}, 0},
	} {
		if got := s.r.do(c); !slices.Equal(got, s.want) {
			t.Errorf("read %d, %s = %v, want %v", i, s.r.name, got, s.want)
		}
		expect(t, s.r.name, c, s.left, false, api.OK)
	}
}

// P6.1: every byte as a Byte, and every number as a Word and in Words, the higher byte first.
func TestEveryNumber(t *testing.T) {
	for n := range 65536 {
		b := []byte{byte(n / 256), byte(n % 256)}
		if x := New(b).Word(); int(x) != n {
			t.Fatalf("Word of %v = %d", b, x)
		}
		if l := New(b).Words(1); len(l) != 1 || int(l[0]) != n {
			t.Fatalf("Words(1) of %v = %v", b, l)
		}
		c := New(b)
		if high, low := c.Byte(), c.Byte(); high != b[0] || low != b[1] {
			t.Fatalf("Byte of %v = %d, %d", b, high, low)
		}
	}
}

// P6.1: an n of 0 reads nothing and isn't short, ahead of the end and at it; of a short cursor it is none.
func TestNothingAsked(t *testing.T) {
	c := New([]byte{1, 2})
	ask := func(what string, left int) {
		for range 2 {
			if b, l := c.Bytes(0), c.Words(0); len(b) != 0 || len(l) != 0 {
				t.Errorf("%s: Bytes(0) = %v, Words(0) = %v, want none", what, b, l)
			}
			expect(t, what, c, left, false, api.OK)
		}
	}
	ask("at the beginning", 2)
	c.Byte()
	ask("ahead of the end", 1)
	c.Byte()
	ask("at the end", 0)
	c.Byte()
	if b := c.Bytes(0); len(b) != 0 {
		t.Errorf("short: Bytes(0) = %v", b)
	}
	if l := c.Words(0); len(l) != 0 {
		t.Errorf("short: Words(0) = %v", l)
	}
	expectNothing(t, "short", c, api.ErrShort)
	c = New(nil)
	ask("of no bytes", 0)
}

// P6.1, P6.2, P6.3: just as many bytes left as are asked for, one too few, and one too many; read bytes ahead or none.
func TestEdges(t *testing.T) {
	reads := []read{readByte(), readWord()}
	for n := 1; n <= 40; n++ {
		reads = append(reads, readBytes(n), readWords(n))
	}
	for _, r := range reads {
		for _, ahead := range []int{0, 1, 2, 5} {
			for _, more := range []int{0, 1} {
				c := New(some(ahead + r.size + more))
				c.Bytes(ahead)
				r.do(c)
				expect(t, r.name+" of enough", c, more, false, api.OK)
			}
			c := New(slices.Repeat([]byte{255}, ahead+r.size-1))
			c.Bytes(ahead)
			if l := r.do(c); slices.Max(append(l, 0)) != 0 {
				t.Errorf("%s of one byte too few = %v", r.name, l)
			}
			expectNothing(t, r.name+" of one byte too few", c, api.ErrShort)
		}
	}
}

// P6.1: a read that falls short leaves nothing, so a smaller one behind it that there were bytes for falls short as well.
func TestReadsBehindShort(t *testing.T) {
	for _, b := range [][]byte{{9}, {9, 8, 7}, {9, 8, 7, 6, 5}} {
		for _, r := range []read{readBytes(len(b) + 1), readWords(len(b)/2 + 1), readBytes(-1), readWords(-1)} {
			for _, then := range []read{readByte(), readWord(), readBytes(1), readBytes(0), readWords(1), readWords(0)} {
				c := New(b)
				r.do(c)
				if l := then.do(c); slices.Max(append(l, 0)) != 0 {
					t.Errorf("%v: %s(%d), then %s = %v", b, r.name, r.size, then.name, l)
				}
				expectNothing(t, r.name+", then "+then.name, c, api.ErrShort)
			}
		}
	}
}

// P6.1: an n below 0, and those that wrap round if they are doubled or added to: none, short, and nothing left.
func TestWrongNumbers(t *testing.T) {
	wrong := []int{
		-1, -2, -3, -8, -1 << 31, -1 << 32, -1 << 62, -1<<62 + 1, -1<<62 - 1, math.MinInt, math.MinInt + 1, math.MinInt + 2, math.MinInt + 3,
		9, 1 << 31, 1<<31 + 1, 1 << 32, 1<<32 + 1, 1<<62 - 1, 1 << 62, 1<<62 + 1, 1<<62 + 2, math.MaxInt - 8, math.MaxInt - 1, math.MaxInt,
	}
	for _, n := range wrong {
		for _, size := range []int{0, 1, 2, 7, 8} {
			for ahead := range min(size+1, 3) {
				c := New(some(size))
				c.Bytes(ahead)
				if b := c.Bytes(n); len(b) != 0 {
					t.Errorf("Bytes(%d) of %d bytes = %v, want none", n, size, b)
				}
				expectNothing(t, "Bytes", c, api.ErrShort)
				c = New(some(size))
				c.Bytes(ahead)
				if l := c.Words(n); len(l) != 0 {
					t.Errorf("Words(%d) of %d bytes = %v, want none", n, size, l)
				}
				expectNothing(t, "Words", c, api.ErrShort)
			}
		}
	}
}

// P6.3, Need: what is told first stays; a Need that holds, and OK itself, tell nothing.
func TestNeed(t *testing.T) {
	for e := api.ErrArg; e <= api.ErrFull; e++ {
		c := New([]byte{1, 2})
		c.Need(true, e)
		expect(t, "a Need that holds", c, 2, false, api.OK)
		c.Need(false, api.OK)
		expect(t, "a Need of OK", c, 2, false, api.OK)
		c.Need(false, e)
		expect(t, "a Need that doesn't hold", c, 2, false, e)
		c.Need(true, api.ErrArg)
		c.Need(false, api.ErrValue)
		c.Need(false, api.OK)
		c.Need(true, api.OK)
		expect(t, "Needs behind it", c, 2, false, e)
	}
}

// P6.3, R1: an error's number is told as it was handed in, whatever it is.
func TestNeedOfAnyNumber(t *testing.T) {
	for _, e := range []api.Errno{-1, 15, math.MinInt, math.MaxInt} {
		c := New(nil)
		c.Need(false, e)
		c.Need(false, api.ErrArg)
		c.Byte()
		expectNothing(t, "any number", c, e)
	}
}

// P6.3: with an error one may read on, as if there were none.
func TestReadOn(t *testing.T) {
	c := New([]byte{1, 2, 3, 4, 5, 6})
	c.Need(false, api.ErrValue)
	if x := c.Byte(); x != 1 {
		t.Errorf("Byte = %d, want 1", x)
	}
	if x := c.Word(); x != 515 {
		t.Errorf("Word = %d, want 515", x)
	}
	if b := c.Bytes(1); !bytes.Equal(b, []byte{4}) {
		t.Errorf("Bytes(1) = %v, want 4", b)
	}
	if l := c.Words(1); !slices.Equal(l, []uint16{1286}) {
		t.Errorf("Words(1) = %v, want 1286", l)
	}
	expect(t, "read on", c, 0, false, api.ErrValue)
}

// P6.3: a Need ahead of a short read stays, one behind it tells nothing; that it is short is told either way.
func TestNeedAndShort(t *testing.T) {
	for _, r := range []read{readByte(), readWord(), readBytes(1), readWords(1), readBytes(-1), readWords(-1)} {
		c := New(nil)
		c.Need(false, api.ErrCount)
		r.do(c)
		c.Need(false, api.ErrArg)
		expectNothing(t, "Need, then "+r.name, c, api.ErrCount)
		c = New(nil)
		c.Need(true, api.ErrCount)
		r.do(c)
		c.Need(false, api.ErrCount)
		expectNothing(t, r.name+", then Need", c, api.ErrShort)
	}
}

// P6.3, End: bytes left are too much, none left are right; what was wrong ahead of it stays, and so does what it told.
func TestEnd(t *testing.T) {
	c := New(nil)
	c.End()
	expect(t, "no bytes", c, 0, false, api.OK)
	c = New([]byte{1, 2})
	c.Byte()
	c.End()
	expect(t, "a byte left", c, 1, false, api.ErrLong)
	c.Need(false, api.ErrArg)
	c.Byte()
	c.End()
	expect(t, "End twice", c, 0, false, api.ErrLong)
	c = New([]byte{1, 2})
	c.Word()
	c.End()
	expect(t, "nothing left", c, 0, false, api.OK)
	c.Need(false, api.ErrRef)
	expect(t, "Need behind an End that held", c, 0, false, api.ErrRef)
	c = New([]byte{1, 2})
	c.Need(false, api.ErrSub)
	c.End()
	expect(t, "End behind Need", c, 2, false, api.ErrSub)
}

// P6.3: End ahead of a short read and behind it.
func TestEndAndShort(t *testing.T) {
	c := New([]byte{1})
	c.End()
	c.Word()
	expectNothing(t, "End, then short", c, api.ErrLong)
	c = New([]byte{1})
	c.Word()
	c.End()
	expectNothing(t, "short, then End", c, api.ErrShort)
	c = New([]byte{1})
	c.Byte()
	c.End()
	c.Byte()
	c.End()
	expectNothing(t, "an End that held, then short", c, api.ErrShort)
}

// P6.4: bytes that are read in two parts, cut anywhere, are those that are read in one; so are numbers.
func TestTwoParts(t *testing.T) {
	for n := range 60 {
		b := some(2 * n)
		whole, words := New(b).Bytes(2*n), New(b).Words(n)
		if !bytes.Equal(whole, b) || len(words) != n {
			t.Fatalf("%d bytes in one = %v, %v, want %v", 2*n, whole, words, b)
		}
		for cut := range 2*n + 1 {
			c := New(b)
			if got := append(c.Bytes(cut), c.Bytes(2*n-cut)...); !bytes.Equal(got, whole) {
				t.Fatalf("%d bytes, cut at %d = %v, want %v", 2*n, cut, got, whole)
			}
			expect(t, "both parts", c, 0, false, api.OK)
		}
		for cut := range n + 1 {
			c := New(b)
			if got := append(c.Words(cut), c.Words(n-cut)...); !slices.Equal(got, words) {
				t.Fatalf("%d numbers, cut at %d = %v, want %v", n, cut, got, words)
			}
			expect(t, "both parts", c, 0, false, api.OK)
		}
	}
}

// P6.4: parts of one byte, or of one number, are those that are read in one; of a long list too.
func TestManyParts(t *testing.T) {
	for _, n := range []int{1, 2, 3, 126, 127, 50000} {
		b := some(2 * n)
		words := New(b).Words(n)
		c, d := New(b), New(b)
		for i, x := range words {
			if got := c.Word(); got != x {
				t.Fatalf("Word %d of %d = %d, want %d", i, n, got, x)
			}
			if high, low := d.Byte(), d.Byte(); high != b[2*i] || low != b[2*i+1] || int(high)*256+int(low) != int(x) {
				t.Fatalf("Bytes of number %d of %d = %d, %d, want %d", i, n, high, low, x)
			}
		}
		expect(t, "words one by one", c, 0, false, api.OK)
		expect(t, "bytes one by one", d, 0, false, api.OK)
	}
}

// model is what the chapter says of a cursor, in its words: all bytes, a place, and what is wrong.
type model struct {
	all   []byte
	at    int
	short bool
	err   api.Errno
}

// want is the bytes that a read of n things of a size is told, by a product that can't wrap round.
func (m *model) want(n, size int) []byte {
	asked := new(big.Int).Mul(big.NewInt(int64(n)), big.NewInt(int64(size)))
	if m.short || n < 0 || asked.Cmp(big.NewInt(int64(len(m.all)-m.at))) > 0 {
		m.short, m.at = true, len(m.all)
		m.wrong(api.ErrShort)
		return nil
	}
	from := m.at
	m.at += n * size
	return m.all[from:m.at]
}

func (m *model) wrong(e api.Errno) {
	if m.err == api.OK {
		m.err = e
	}
}

// numbers is bytes as numbers of a size, the higher byte first.
func numbers(b []byte, size int) []int {
	var l []int
	for part := range slices.Chunk(b, size) {
		x := 0
		for _, y := range part {
			x = x*256 + int(y)
		}
		l = append(l, x)
	}
	return l
}

// step does one thing, told by two numbers, with both, and tells what each answered.
func step(c *Cursor, m *model, kind, n int) (got, want []int) {
	alone := func(l []int) []int {
		if len(l) == 0 {
			return []int{0}
		}
		return l
	}
	switch kind {
	case 0, 1:
		return readByte().do(c), alone(numbers(m.want(1, 1), 1))
	case 2, 3:
		return readWord().do(c), alone(numbers(m.want(1, 2), 2))
	case 4, 5:
		return readBytes(n).do(c), numbers(m.want(n, 1), 1)
	case 6, 7:
		return readWords(n).do(c), numbers(m.want(n, 2), 2)
	case 8:
		ok, e := n%4 != 0, api.Errno(n)
		c.Need(ok, e)
		if !ok {
			m.wrong(e)
		}
	case 9:
		c.End()
		if m.at < len(m.all) {
			m.wrong(api.ErrLong)
		}
	}
	return nil, nil
}

// P6.1 to P6.4: many mixed rows of steps, each step held against the chapter's words.
func TestMixed(t *testing.T) {
	for seed := range 4000 {
		b := some(seed % 50)
		c, m := New(b), &model{all: b}
		for i, x := range some(seed + 400)[:40] {
			kind, n := int(x)%10, int(x)/10%7-1
			if seed%5 != 0 { // most rows are without an n below 0, so that they aren't short too early
				n = max(n, 0)
			}
			if kind == 9 && seed%2 == 0 { // half of the rows are without End, so that what is wrong first is something else
				continue
			}
			got, want := step(c, m, kind, n)
			if !slices.Equal(got, want) {
				t.Fatalf("row %d, step %d (%d of %d) = %v, want %v", seed, i, kind, n, got, want)
			}
			if c.Left() != len(b)-m.at || c.Short() != m.short || c.Err() != m.err {
				t.Fatalf("row %d, step %d (%d of %d): Left %d, Short %v, Err %d, want %d, %v, %d", seed, i, kind, n, c.Left(), c.Short(), c.Err(), len(b)-m.at, m.short, m.err)
			}
		}
	}
}

// R5: what is handed in isn't changed, by no call, nor by who changes what was answered.
func TestHandedInIsNotChanged(t *testing.T) {
	b := some(20)
	c := New(b[:18])
	c.Byte()
	c.Word()
	one, two := c.Bytes(5), c.Words(3)
	rest := c.Bytes(4)
	clear(one)
	clear(two)
	clear(rest)
	_ = append(one, 1, 2, 3)
	_ = append(rest, 1, 2, 3)
	c.End()
	c.Byte()
	if !bytes.Equal(b, some(20)) {
		t.Errorf("what was handed in is %v, was %v", b, some(20))
	}
}

// R5: who changes what was handed in changes nothing of what is read then, nor of what was answered.
func TestHandedInIsNotKept(t *testing.T) {
	b, was := some(20), some(20)
	c := New(b)
	one, two := c.Bytes(4), c.Words(2)
	high := two[0]
	clear(b)
	if !bytes.Equal(one, was[:4]) || two[0] != high || int(high) != int(was[4])*256+int(was[5]) {
		t.Error("an answer hangs on what was handed in")
	}
	if x := c.Byte(); x != was[8] {
		t.Errorf("Byte = %d, want %d", x, was[8])
	}
	if x := c.Word(); int(x) != int(was[9])*256+int(was[10]) {
		t.Errorf("Word = %d, of %d %d", x, was[9], was[10])
	}
	if got := c.Bytes(3); !bytes.Equal(got, was[11:14]) {
		t.Errorf("Bytes(3) = %v, want %v", got, was[11:14])
	}
	if got := c.Words(3); !slices.Equal(got, New(was[14:]).Words(3)) {
		t.Errorf("Words(3) = %v, of %v", got, was[14:])
	}
}

// R5: who changes a list that was answered, or appends to it, changes nothing that is read behind it, nor another answer.
func TestAnswersAreNew(t *testing.T) {
	was := some(12)
	c := New(was)
	one := c.Bytes(4)
	clear(one)
	_ = append(one, 77, 77, 77, 77)
	_ = append(c.Bytes(0), 77, 77, 77, 77)
	two := c.Bytes(4)
	if !bytes.Equal(two, was[4:8]) {
		t.Errorf("the second Bytes = %v, want %v", two, was[4:8])
	}
	three := c.Words(1)
	three[0]++
	_ = append(three, 77, 77)
	if x := c.Word(); int(x) != int(was[10])*256+int(was[11]) {
		t.Errorf("Word behind Words = %d", x)
	}
	if !bytes.Equal(one, make([]byte, 4)) || !bytes.Equal(two, was[4:8]) {
		t.Error("answers share memory")
	}
}

// R5, R6: two cursors of the same bytes don't know of each other.
func TestTwoCursors(t *testing.T) {
	b := some(9)
	c, d := New(b), New(b)
	c.Bytes(4)
	expect(t, "the other one", d, 9, false, api.OK)
	c.Bytes(-1)
	c.Need(false, api.ErrArg)
	expect(t, "the other one of a short one", d, 9, false, api.OK)
	if got := d.Bytes(9); !bytes.Equal(got, b) {
		t.Errorf("the other one = %v, want %v", got, b)
	}
	expectNothing(t, "the short one", c, api.ErrShort)
}
