package files

import (
	"bytes"
	"fmt"
	"math"
	"reflect"
	"slices"
	"testing"

	"busbar/api"
	"busbar/code"
)

// noise is n bytes that look like no pattern, the same ones each time.
func noise(n int) []byte {
	b := make([]byte, n)
	x := uint32(n)*2654435761 + 1
	for i := range b {
		x = x*1664525 + 1013904223
		b[i] = byte(x >> 24)
	}
	return b
}

// words is n numbers that look like no pattern, the same ones each time.
func words(n int) []uint16 {
	l := make([]uint16, n)
	x := uint32(n)*2654435761 + 7
	for i := range l {
		x = x*1664525 + 1013904223
		l[i] = uint16(x >> 16)
	}
	return l
}

// big is numbers in bytes, the higher one first.
func big(l ...int) []byte {
	var b []byte
	for _, x := range l {
		b = append(b, byte(x/256), byte(x%256))
	}
	return b
}

// bigWords is words in bytes.
func bigWords(l []uint16) []byte {
	var b []byte
	for _, x := range l {
		b = append(b, big(int(x))...)
	}
	return b
}

// ask is a part of code 20's request.
func ask(file, record, count int) []byte {
	return append([]byte{6}, big(file, record, count)...)
}

// tell is a part of code 20's response.
func tell(l []uint16) []byte {
	return append([]byte{byte(1 + 2*len(l)), 6}, bigWords(l)...)
}

// put is a part of code 21.
func put(file, record int, l []uint16) []byte {
	return append(ask(file, record, len(l)), bigWords(l)...)
}

// block is parts with the number of their bytes ahead.
func block(parts ...[]byte) []byte {
	b := slices.Concat(parts...)
	return append([]byte{byte(len(b))}, b...)
}

// row is a row of the table, of one direction.
type row struct {
	dir int
	c   uint8
}

// rows is all of them.
func rows() []row { return []row{{0, 20}, {1, 20}, {0, 21}, {1, 21}} }

// hasPlaces tells whether a row's parts have a File, a Record and a Count.
func (r row) hasPlaces() bool { return r != row{1, 20} }

// may tells whether a row's block may have n bytes.
func (r row) may(n int) bool {
	switch r {
	case row{0, 20}:
		return slices.Contains([]int{7, 14, 21, 28, 35, 42, 49, 56, 63, 70, 77, 84, 91, 98, 105, 112, 119, 126, 133, 140, 147, 154, 161, 168, 175, 182, 189, 196, 203, 210, 217, 224, 231, 238, 245}, n)
	case row{1, 20}:
		return n > 3 && n < 246
	}
	return n > 8 && n < 252
}

// part is a part of a row, of so many words, the seed telling which.
func (r row) part(n, seed int) []byte {
	l := words(n + seed)[seed:]
	switch r {
	case row{0, 20}:
		return ask(4+seed, 7*seed, n)
	case row{1, 20}:
		return tell(l)
	}
	return put(4+seed, 7*seed, l)
}

// beside is directions that are none.
func beside() []int {
	return []int{-1, 2, 3, -2, 20, 21, 255, 256, 257, 65536, 65537, 1 << 32, 1<<32 + 1, math.MinInt, math.MinInt + 1, math.MaxInt}
}

// at is the number that two bytes are.
func at(b []byte, i int) int { return int(b[i])*256 + int(b[i+1]) }

// wordsAt is n words from a place on.
func wordsAt(b []byte, i, n int) []uint16 {
	var l []uint16
	for j := range n {
		l = append(l, uint16(at(b, i+2*j)))
	}
	return l
}

// model is the chapter's table told by lengths and places of bytes, not by fields that are read.
func model(dir int, c uint8, b []byte) (api.Msg, api.Errno) {
	if dir != 0 && dir != 1 {
		return api.Msg{}, api.ErrArg
	}
	if c != 20 && c != 21 {
		return api.Msg{}, api.ErrCode
	}
	r := row{dir, c}
	switch {
	case len(b) == 0:
		return api.Msg{}, api.ErrShort
	case !r.may(int(b[0])):
		return api.Msg{}, api.ErrCount
	case len(b) < 1+int(b[0]):
		return api.Msg{}, api.ErrShort
	}
	m := api.Msg{Code: c}
	rest := b[1 : 1+int(b[0])]
	for len(rest) > 0 {
		p, length, e := modelPart(r, rest)
		m.Recs = append(m.Recs, p)
		if e == api.OK && r == (row{0, 20}) && 2*len(m.Recs)+2*counts(m.Recs) > 245 {
			e = api.ErrCount
		}
		if e != api.OK {
			return api.Msg{}, e
		}
		rest = rest[length:]
	}
	if len(b) > 1+int(b[0]) {
		return api.Msg{}, api.ErrLong
	}
	return m, api.OK
}

// counts is all parts' Counts together.
func counts(l []api.Rec) int {
	n := 0
	for _, p := range l {
		n += int(p.Count)
	}
	return n
}

// modelPart is the first part of what a block has left, and how long it is.
func modelPart(r row, b []byte) (api.Rec, int, api.Errno) {
	if !r.hasPlaces() {
		switch k := int(b[0]); {
		case k&1 == 0, k == 1, k > len(b)-1:
			return api.Rec{}, 0, api.ErrCount
		case b[1] != 6:
			return api.Rec{}, 0, api.ErrRef
		default:
			return api.Rec{Words: wordsAt(b, 2, k/2)}, k + 1, api.OK
		}
	}
	switch {
	case b[0] != 6:
		return api.Rec{}, 0, api.ErrRef
	case len(b) < 3:
		return api.Rec{}, 0, api.ErrCount
	case b[1] == 0 && b[2] == 0:
		return api.Rec{}, 0, api.ErrValue
	case len(b) < 5:
		return api.Rec{}, 0, api.ErrCount
	case at(b, 3) >= 10000:
		return api.Rec{}, 0, api.ErrAddr
	case len(b) < 7, b[5] == 0 && b[6] == 0:
		return api.Rec{}, 0, api.ErrCount
	}
	p := api.Rec{File: uint16(at(b, 1)), Record: uint16(at(b, 3)), Count: uint16(at(b, 5))}
	if r.c == 20 {
		return p, 7, api.OK
	}
	if len(b) < 7+2*at(b, 5) {
		return api.Rec{}, 0, api.ErrCount
	}
	p.Words = wordsAt(b, 7, at(b, 5))
	return p, 7 + 2*at(b, 5), api.OK
}

// rowBytes is the bytes of a message, told by what each row asks of its fields; and whether there are any.
func rowBytes(dir int, m api.Msg) ([]byte, bool) {
	r := row{dir, m.Code}
	if !slices.Contains(rows(), r) || !code.Same(m, api.Msg{Code: m.Code, Recs: m.Recs}) {
		return nil, false
	}
	length, asked := 0, 0
	for _, p := range m.Recs {
		place := p.File != 0 && p.Record <= 9999 && p.Count != 0
		switch r {
		case row{0, 20}:
			if !place || len(p.Words) > 0 {
				return nil, false
			}
			length, asked = length+7, asked+2+2*int(p.Count)
		case row{1, 20}:
			if p.File != 0 || p.Record != 0 || p.Count != 0 || len(p.Words) == 0 {
				return nil, false
			}
			length += 2 + 2*len(p.Words)
		default:
			if !place || len(p.Words) != int(p.Count) {
				return nil, false
			}
			length += 7 + 2*len(p.Words)
		}
	}
	if !r.may(length) || asked > 245 {
		return nil, false
	}
	return block(partBytes(r, m.Recs)...), true
}

// partBytes is parts in bytes, each by itself.
func partBytes(r row, l []api.Rec) [][]byte {
	var parts [][]byte
	for _, p := range l {
		switch file, record := int(p.File), int(p.Record); r {
		case row{0, 20}:
			parts = append(parts, ask(file, record, int(p.Count)))
		case row{1, 20}:
			parts = append(parts, tell(p.Words))
		default:
			parts = append(parts, put(file, record, p.Words))
		}
	}
	return parts
}

// expect asks Parse, and, of what is told, Write: of an error no message is told, of a message the same bytes are written.
func expect(t *testing.T, dir int, c uint8, b []byte, want api.Msg, e api.Errno) {
	t.Helper()
	got, gotE := Parse(dir, c, b)
	if gotE != e || !code.Same(got, want) {
		t.Fatalf("Parse(%d, %d, %v) = %v, %d, want %v, %d", dir, c, b, got, gotE, want, e)
	}
	if e != api.OK {
		return
	}
	if back, backE := Write(dir, got); backE != api.OK || !bytes.Equal(back, b) {
		t.Fatalf("Write(%d, %v) = %v, %d, want %v", dir, got, back, backE, b)
	}
}

// expectModel is expect of what model tells.
func expectModel(t *testing.T, dir int, c uint8, b []byte) {
	t.Helper()
	want, e := model(dir, c, b)
	expect(t, dir, c, b, want, e)
}

// expectError is expect of an error, and no message.
func expectError(t *testing.T, dir int, c uint8, b []byte, e api.Errno) {
	t.Helper()
	expect(t, dir, c, b, api.Msg{}, e)
}

// expectParts is expect of a message of those parts.
func expectParts(t *testing.T, r row, b []byte, l ...api.Rec) {
	t.Helper()
	expect(t, r.dir, r.c, b, api.Msg{Code: r.c, Recs: l}, api.OK)
}

// expectTold is expectModel, and asks that the model tells that error, or OK, as the test's own words do.
func expectTold(t *testing.T, r row, b []byte, e api.Errno) {
	t.Helper()
	if _, want := model(r.dir, r.c, b); want != e {
		t.Fatalf("the tests' model tells %d of %v, %v, not %d", want, r, b, e)
	}
	expectModel(t, r.dir, r.c, b)
}

// expectNone asks that Write tells ErrArg, and no bytes.
func expectNone(t *testing.T, what string, dir int, m api.Msg) {
	t.Helper()
	if b, e := Write(dir, m); e != api.ErrArg || len(b) != 0 {
		t.Fatalf("%s: Write(%d, code %d of %d parts) = %v, %d, want none and ErrArg", what, dir, m.Code, len(m.Recs), b, e)
	}
}

// expectWrite asks for those bytes of a message that may be, and none of another one.
func expectWrite(t *testing.T, dir int, m api.Msg, may bool, b []byte) {
	t.Helper()
	if !may {
		expectNone(t, "may not be", dir, m)
	} else if got, e := Write(dir, m); e != api.OK || !bytes.Equal(got, b) {
		t.Fatalf("Write(%d, %v) = %v, %d, want %v", dir, m, got, e, b)
	}
}

// expectRow is expectWrite of what rowBytes tells; and tells whether there are bytes.
func expectRow(t *testing.T, dir int, m api.Msg) bool {
	t.Helper()
	b, may := rowBytes(dir, m)
	expectWrite(t, dir, m, may, b)
	return may
}

// expectRowIs is expectRow, and asks that rowBytes tells bytes, or none, as the test's own words do.
func expectRowIs(t *testing.T, may bool, dir int, m api.Msg) {
	t.Helper()
	if expectRow(t, dir, m) != may {
		t.Fatalf("the tests tell both that Write(%d, %v) has bytes and that it has none", dir, m)
	}
}

// sample is bytes of a row of the table, and the message that they are.
type sample struct {
	row
	b []byte
	m api.Msg
}

// samples is messages of every row of the table, at the edges of their fields.
func samples() []sample {
	var l []sample
	for _, r := range rows() {
		for _, parts := range partLists(r) {
			l = append(l, sample{r, block(partBytes(r, parts)...), api.Msg{Code: r.c, Recs: parts}})
		}
	}
	return l
}

// partLists is lists of parts that a row's message may have.
func partLists(r row) [][]api.Rec {
	switch r {
	case row{0, 20}:
		return askedLists()
	case row{1, 20}:
		return toldLists()
	}
	return writtenLists()
}

func askedLists() [][]api.Rec {
	var l [][]api.Rec
	for _, file := range []uint16{1, 2, 4, 255, 256, 32768, 65535} {
		for _, record := range []uint16{0, 1, 255, 256, 9998, 9999} {
			for _, count := range []uint16{1, 2, 120, 121} {
				l = append(l, []api.Rec{{File: file, Record: record, Count: count}})
			}
		}
	}
	for _, counts := range [][]uint16{
		{1, 1}, {60, 60}, {1, 119}, {119, 1}, {2, 118}, {39, 40, 40}, {1, 1, 117},
		slices.Repeat([]uint16{1}, 35), slices.Repeat([]uint16{1}, 34), append(slices.Repeat([]uint16{1}, 34), 53), append([]uint16{53}, slices.Repeat([]uint16{1}, 34)...),
		append(slices.Repeat([]uint16{2}, 33), 10, 11),
	} {
		var parts []api.Rec
		for i, count := range counts {
			parts = append(parts, api.Rec{File: uint16(1 + 257*i), Record: uint16(9999 - 263*i), Count: count})
		}
		l = append(l, parts)
	}
	return l
}

func toldLists() [][]api.Rec {
	var l [][]api.Rec
	for _, lengths := range [][]int{
		{1}, {2}, {3}, {60}, {119}, {120}, {121},
		{1, 1}, {2, 1}, {1, 2}, {60, 60}, {1, 119}, {119, 1}, {3, 2, 1}, {40, 40, 39},
		slices.Repeat([]int{1}, 60), slices.Repeat([]int{1}, 61), append(slices.Repeat([]int{1}, 59), 3),
	} {
		for _, of := range []func(n int) []uint16{words, zeros, ones} {
			var parts []api.Rec
			for i, n := range lengths {
				parts = append(parts, api.Rec{Words: of(n + i)[i:]})
			}
			l = append(l, parts)
		}
	}
	return l
}

func writtenLists() [][]api.Rec {
	var l [][]api.Rec
	for _, lengths := range [][]int{
		{1}, {2}, {3}, {60}, {121}, {122},
		{1, 1}, {2, 1}, {1, 2}, {59, 59}, {1, 117}, {117, 1}, {3, 2, 1}, {39, 38, 38},
		slices.Repeat([]int{1}, 26), slices.Repeat([]int{1}, 27), append(slices.Repeat([]int{1}, 26), 5), append([]int{5}, slices.Repeat([]int{1}, 26)...),
	} {
		for _, of := range []func(n int) []uint16{words, zeros, ones} {
			var parts []api.Rec
			for i, n := range lengths {
				parts = append(parts, api.Rec{File: uint16(65535 - 259*i), Record: uint16(3 * i), Count: uint16(n), Words: of(n + i)[i:]})
			}
			l = append(l, parts)
		}
	}
	for _, file := range []uint16{1, 2, 255, 256, 32768, 65535} {
		for _, record := range []uint16{0, 1, 255, 256, 9998, 9999} {
			l = append(l, []api.Rec{{File: file, Record: record, Count: 1, Words: []uint16{44804}}})
		}
	}
	return l
}

// zeros is n words of 0.
func zeros(n int) []uint16 { return make([]uint16, n) }

// ones is n words of 65535.
func ones(n int) []uint16 { return slices.Repeat([]uint16{65535}, n) }

// The chapter's example, told field by field.
func TestExample(t *testing.T) {
	expectParts(t, row{api.Request, 20}, []byte{7, 6, 0, 4, 0, 1, 0, 2}, api.Rec{File: 4, Record: 1, Count: 2})
}

// P11.1: messages of each row, told byte by byte, with another value in each field, of one part and of more.
func TestRows(t *testing.T) {
	expectParts(t, row{0, 20}, []byte{7, 6, 1, 2, 3, 4, 0, 5}, api.Rec{File: 258, Record: 772, Count: 5})
	expectParts(t, row{0, 20}, []byte{14, 6, 0, 4, 0, 1, 0, 2, 6, 0, 3, 0, 9, 0, 7}, api.Rec{File: 4, Record: 1, Count: 2}, api.Rec{File: 3, Record: 9, Count: 7})
	expectParts(t, row{1, 20}, []byte{6, 5, 6, 1, 2, 3, 4}, api.Rec{Words: []uint16{258, 772}})
	expectParts(t, row{1, 20}, []byte{12, 5, 6, 13, 254, 0, 32, 5, 6, 51, 205, 0, 64}, api.Rec{Words: []uint16{3582, 32}}, api.Rec{Words: []uint16{13261, 64}})
	for dir := range 2 {
		expectParts(t, row{dir, 21}, []byte{11, 6, 1, 2, 3, 4, 0, 2, 5, 6, 7, 8}, api.Rec{File: 258, Record: 772, Count: 2, Words: []uint16{1286, 1800}})
		expectParts(t, row{dir, 21}, []byte{20, 6, 0, 4, 0, 7, 0, 2, 1, 2, 3, 4, 6, 0, 1, 0, 0, 0, 1, 5, 6},
			api.Rec{File: 4, Record: 7, Count: 2, Words: []uint16{258, 772}}, api.Rec{File: 1, Count: 1, Words: []uint16{1286}})
	}
}

// anyBytes is bytes of which each is a form's, or none's.
func anyBytes() [][]byte {
	return [][]byte{
		nil, {}, {0}, {7}, {4}, {9}, {255}, {7, 6, 0, 4, 0, 1, 0, 2}, {7, 5, 0, 0, 255, 255, 0, 0}, {4, 3, 6, 0, 1}, {4, 2, 7, 0, 1},
		block(put(4, 7, words(3))), block(put(0, 10000, words(3))), noise(9), noise(252), noise(300),
	}
}

// P11.1: directions beside both are ErrArg, whatever the code and the bytes are.
func TestParseDirection(t *testing.T) {
	for _, dir := range beside() {
		for c := range 256 {
			for _, b := range anyBytes() {
				expectError(t, dir, uint8(c), b, api.ErrArg)
			}
		}
	}
}

// P11.1: every code that is none of the two is ErrCode, whatever the bytes are.
func TestParseCode(t *testing.T) {
	for dir := range 2 {
		for c := range 256 {
			for _, b := range anyBytes() {
				if c == 20 || c == 21 {
					expectModel(t, dir, uint8(c), b)
				} else {
					expectError(t, dir, uint8(c), b, api.ErrCode)
				}
			}
		}
	}
}

// P11.1, P11.2: messages of each row of the table, both ways; and in the other rows.
func TestSamples(t *testing.T) {
	for _, s := range samples() {
		expect(t, s.dir, s.c, s.b, s.m, api.OK)
		for _, r := range rows() {
			expectModel(t, r.dir, r.c, s.b)
		}
	}
}

// P11.1: each form cut off at each of its bytes is ErrShort; with bytes more, whatever they are, ErrLong.
func TestCutAndLong(t *testing.T) {
	for _, s := range samples() {
		for n := range len(s.b) {
			expectError(t, s.dir, s.c, s.b[:n], api.ErrShort)
		}
		for _, more := range [][]byte{{0}, {1}, {6}, {255}, {0, 0}, {6, 0, 4, 0, 1, 0, 2}, s.b, noise(300)} {
			expectError(t, s.dir, s.c, slices.Concat(s.b, more), api.ErrLong)
		}
	}
}

// P11.1: nothing at all.
func TestNothing(t *testing.T) {
	for _, r := range rows() {
		expectError(t, r.dir, r.c, nil, api.ErrShort)
		expectError(t, r.dir, r.c, []byte{}, api.ErrShort)
	}
}

// fill is n bytes of one or more parts of a row, as far as there are such; of these the answer has room, where they are asked for.
func fill(r row, n int) ([]byte, bool) {
	switch r {
	case row{0, 20}:
		return bytes.Repeat(ask(4, 9999, 1), n/7), n%7 == 0 && n <= 245
	case row{1, 20}:
		return tell(words(max(n-2, 2) / 2)), n%2 == 0 && n >= 4
	}
	if n%2 == 0 {
		// One part has an odd number of bytes, and two have an even one.
		return append(put(4, 9999, words(1)), put(1, 0, words(max(n-16, 2)/2))...), n >= 18
	}
	return put(4, 9999, words(max(n-7, 2)/2)), n >= 9
}

// P11.1: every n, with as many bytes as it asks for that are a row's parts, with fewer, and with more.
func TestEveryNumberOfBytes(t *testing.T) {
	for _, r := range rows() {
		for n := range 256 {
			parts, ok := fill(r, n)
			if !ok {
				continue
			}
			b := block(parts)
			if !r.may(n) {
				for size := 1; size <= len(b); size++ {
					expectTold(t, r, b[:size], api.ErrCount)
				}
				expectTold(t, r, append(b, 6), api.ErrCount)
				continue
			}
			expectTold(t, r, b, api.OK)
			expectTold(t, r, b[:n], api.ErrShort)
			expectTold(t, r, append(slices.Clone(b), 0), api.ErrLong)
			expectTold(t, r, append(slices.Clone(b), 6), api.ErrLong)
		}
	}
}

// P11.1: every n, with a block of that many bytes, whatever they are, with one fewer, and one more: too few bytes count ahead of what is in the block, and too many behind it.
func TestEveryNumberAnyBlock(t *testing.T) {
	for _, r := range rows() {
		for n := range 256 {
			valid, _ := fill(r, n)
			valid = append(valid, noise(n)...)[:n]
			for _, rest := range [][]byte{valid, make([]byte, n), noise(n), bytes.Repeat([]byte{6}, n), bytes.Repeat([]byte{255}, n), bytes.Repeat([]byte{3, 6, 0, 1}, n)[:n]} {
				b := append([]byte{byte(n)}, rest...)
				expectModel(t, r.dir, r.c, b)
				if !r.may(n) {
					expectError(t, r.dir, r.c, b, api.ErrCount)
					expectError(t, r.dir, r.c, b[:1], api.ErrCount)
					expectError(t, r.dir, r.c, append(slices.Clone(b), noise(9)...), api.ErrCount)
					continue
				}
				for _, size := range []int{0, 1, 2, n / 2, n - 2, n - 1} {
					expectError(t, r.dir, r.c, b[:1+size], api.ErrShort)
				}
				_, whole := Parse(r.dir, r.c, b)
				if whole == api.OK {
					whole = api.ErrLong
				}
				expectError(t, r.dir, r.c, append(slices.Clone(b), 0), whole)
				expectError(t, r.dir, r.c, append(slices.Clone(b), noise(300)...), whole)
			}
		}
	}
}

// P11.1: n at both sides of each bound, told one by one.
func TestBounds(t *testing.T) {
	for _, x := range []struct {
		row
		may, mayNot []int
	}{
		{row{0, 20}, []int{7, 14, 238, 245}, []int{0, 1, 6, 8, 13, 15, 237, 244, 246, 251, 252, 255}},
		{row{1, 20}, []int{4, 5, 6, 7, 244, 245}, []int{0, 1, 2, 3, 246, 247, 251, 252, 255}},
		{row{0, 21}, []int{9, 10, 11, 245, 246, 250, 251}, []int{0, 1, 7, 8, 252, 253, 255}},
		{row{1, 21}, []int{9, 10, 11, 245, 246, 250, 251}, []int{0, 1, 7, 8, 252, 253, 255}},
	} {
		for _, n := range x.may {
			expectError(t, x.dir, x.c, []byte{byte(n)}, api.ErrShort)
			expectError(t, x.dir, x.c, append([]byte{byte(n)}, make([]byte, n-1)...), api.ErrShort)
		}
		for _, n := range x.mayNot {
			for _, size := range []int{0, 1, n, n + 1, 300} {
				expectError(t, x.dir, x.c, append([]byte{byte(n)}, noise(size)...), api.ErrCount)
			}
		}
	}
	// As long as may be.
	expectParts(t, row{1, 20}, block(tell(words(121))), api.Rec{Words: words(121)})
	expectError(t, 1, 20, block(tell(words(122))), api.ErrCount)
	for dir := range 2 {
		expectParts(t, row{dir, 21}, block(put(1, 0, words(122))), api.Rec{File: 1, Count: 122, Words: words(122)})
		expectError(t, dir, 21, block(put(1, 0, words(123))), api.ErrCount)
	}
	expectError(t, 0, 20, block(bytes.Repeat(ask(1, 1, 1), 36)), api.ErrCount)
}

// surrounded is a part of a row by itself, as a later one, ahead of one more, and between two; and how many parts stand ahead of it.
func surrounded(r row, part []byte) map[int][][]byte {
	first, second, other := r.part(1, 0), r.part(2, 1), r.part(1, 2)
	return map[int][][]byte{
		0: {block(part), block(part, other), block(part, first, second)},
		1: {block(first, part), block(second, part, other)},
		2: {block(first, second, part), block(second, first, part, other)},
	}
}

// expectAround asks that a part that has an error tells just it, wherever it stands and whatever stands behind the block.
func expectAround(t *testing.T, r row, part []byte, e api.Errno) {
	t.Helper()
	for _, l := range surrounded(r, part) {
		for _, b := range l {
			if !r.may(int(b[0])) {
				continue
			}
			expectTold(t, r, b, e)
			long := e
			if e == api.OK {
				long = api.ErrLong
			}
			expectTold(t, r, append(slices.Clone(b), 0), long)
			expectTold(t, r, append(slices.Clone(b), noise(20)...), long)
			expectTold(t, r, b[:len(b)-1], api.ErrShort)
		}
	}
}

// P11.1: every byte as a part's reference, in the first part and in later ones.
func TestEveryReference(t *testing.T) {
	for _, r := range rows() {
		for x := range 256 {
			part := r.part(3, 5)
			e := api.ErrRef
			if x == 6 {
				e = api.OK
			}
			if r.hasPlaces() {
				part[0] = byte(x)
			} else {
				part[1] = byte(x)
			}
			expectAround(t, r, part, e)
		}
	}
}

// P11.1: every File, every Record, in the first part and in later ones.
func TestEveryFileAndRecord(t *testing.T) {
	t.Parallel()
	for x := range 65536 {
		files, records := api.OK, api.OK
		if x == 0 {
			files = api.ErrValue
		}
		if x > 9999 {
			records = api.ErrAddr
		}
		edge := x < 3 || x > 65533 || x > 9997 && x < 10003 || x%4096 == 0
		for _, r := range rows() {
			if !r.hasPlaces() {
				continue
			}
			file, record := r.part(1, 0), r.part(1, 0)
			copy(file[1:], big(x))
			copy(record[3:], big(x))
			if edge {
				expectAround(t, r, file, files)
				expectAround(t, r, record, records)
				continue
			}
			expectTold(t, r, block(file), files)
			expectTold(t, r, block(record), records)
			expectTold(t, r, block(r.part(2, 1), record), records)
		}
	}
}

// P11.1: every Count of code 20's request: alone, and with others ahead.
func TestEveryAskedCount(t *testing.T) {
	t.Parallel()
	r := row{0, 20}
	for x := range 65536 {
		alone, second, third, last := api.ErrCount, api.ErrCount, api.ErrCount, api.ErrCount
		if x >= 1 && x <= 121 {
			alone = api.OK
		}
		if x >= 1 && x <= 20 {
			second = api.OK
		}
		if x >= 1 && x <= 14 {
			third = api.OK
		}
		if x >= 1 && x <= 53 {
			last = api.OK
		}
		part := ask(4, 1, x)
		expectTold(t, r, block(part), alone)
		expectTold(t, r, block(ask(1, 2, 100), part), second)
		expectTold(t, r, block(ask(1, 2, 100), ask(7, 0, 5), part), third)
		expectTold(t, r, block(bytes.Repeat(ask(9, 9, 1), 34), part), last)
		expectTold(t, r, block(part, bytes.Repeat(ask(9, 9, 1), 34)), last)
	}
}

// P11.1: of two parts that are asked for all Counts, and of more parts all of one Count.
func TestAskedTogether(t *testing.T) {
	t.Parallel()
	r := row{0, 20}
	for a := range 130 {
		for b := range 130 {
			e := api.OK
			if a == 0 || b == 0 || 4+2*a+2*b > 245 {
				e = api.ErrCount
			}
			expectTold(t, r, block(ask(1, 1, a), ask(2, 2, b)), e)
		}
	}
	for parts := 1; parts <= 35; parts++ {
		for count := range 130 {
			e := api.OK
			if count == 0 || 2*parts+2*parts*count > 244 {
				e = api.ErrCount
			}
			expectTold(t, r, block(bytes.Repeat(ask(1, 1, count), parts)), e)
			expectTold(t, r, append(block(bytes.Repeat(ask(1, 1, count), parts)), 0), orLong(e))
		}
	}
	// Sums that have the lowest 8, or 16, bits of another one.
	for _, l := range [][]int{{127}, {128}, {32767}, {32768}, {65535}, {65534, 1}, {1, 65534}, {1, 65535}, {32767, 32767}, {100, 65535}, {60, 61}, {61, 60}, {40, 40, 40}} {
		var parts [][]byte
		for _, count := range l {
			parts = append(parts, ask(5, 5, count))
		}
		expectTold(t, r, block(parts...), api.ErrCount)
	}
}

// P11.1: the Counts together are too many from one part on; what is wrong behind that part doesn't count, and what is wrong ahead of it does.
func TestAskedTogetherFirst(t *testing.T) {
	r := row{0, 20}
	most, more := ask(1, 1, 121), ask(1, 1, 1)
	ref := append([]byte{7}, more[1:]...)
	for _, x := range []struct {
		e     api.Errno
		parts [][]byte
	}{
		{api.OK, [][]byte{most}},
		{api.ErrCount, [][]byte{most, more}},
		{api.ErrRef, [][]byte{most, ref}},
		{api.ErrValue, [][]byte{most, ask(0, 1, 1)}},
		{api.ErrAddr, [][]byte{most, ask(1, 10000, 1)}},
		{api.ErrCount, [][]byte{most, more, ref}},
		{api.ErrCount, [][]byte{most, more, ask(0, 1, 1)}},
		{api.ErrCount, [][]byte{ask(1, 1, 122), ref}},
		{api.ErrCount, [][]byte{ask(1, 1, 122), ask(1, 10000, 1)}},
		{api.ErrRef, [][]byte{more, ref, ask(1, 1, 122)}},
		{api.ErrValue, [][]byte{more, ask(0, 1, 1), ask(1, 1, 122)}},
		{api.ErrAddr, [][]byte{ask(1, 10000, 122), most}},
		{api.ErrRef, [][]byte{append([]byte{5}, ask(1, 1, 122)[1:]...), most}},
	} {
		expectTold(t, r, block(x.parts...), x.e)
		expectTold(t, r, append(block(x.parts...), 6), orLong(x.e))
	}
}

// orLong is an error, or ErrLong where there is none.
func orLong(e api.Errno) api.Errno {
	if e == api.OK {
		return api.ErrLong
	}
	return e
}

// P11.1: in code 20's response every k, with every number of bytes left, in the first part and in a later one.
func TestEveryTold(t *testing.T) {
	t.Parallel()
	r := row{1, 20}
	for k := range 256 {
		for left := 1; left < 245; left++ {
			part := append([]byte{byte(k), 6}, noise(left)[1:]...)
			alone, later := block(part), block(tell(words(2)), part)
			switch {
			case k%2 == 0 || k < 3 || k > left:
				expectTold(t, r, alone, api.ErrCount)
				expectTold(t, r, later, api.ErrCount)
			case k == left && r.may(int(later[0])):
				expectTold(t, r, alone, api.OK)
				expectTold(t, r, later, api.OK)
			default:
				// The bytes that are left are parts by themselves.
				expectModel(t, 1, 20, alone)
				expectModel(t, 1, 20, later)
			}
		}
	}
}

// P11.1: k at both sides of what it may be, told one by one.
func TestToldBounds(t *testing.T) {
	ahead := tell([]uint16{258})
	for _, x := range []struct {
		e    api.Errno
		part []byte
	}{
		{api.OK, []byte{3, 6, 1, 2}}, {api.OK, []byte{5, 6, 1, 2, 3, 4}},
		{api.ErrCount, []byte{0, 6, 1, 2}}, {api.ErrCount, []byte{1, 6, 1, 2}}, {api.ErrCount, []byte{2, 6, 1, 2}}, {api.ErrCount, []byte{4, 6, 1, 2}},
		{api.ErrCount, []byte{4, 6, 1, 2, 3}}, {api.ErrCount, []byte{5, 6, 1, 2}}, {api.ErrCount, []byte{5, 6, 1, 2, 3}}, {api.ErrCount, []byte{7, 6, 1, 2, 3, 4}},
		{api.ErrCount, []byte{255, 6, 1, 2}}, {api.ErrCount, []byte{3, 6, 1, 2, 3}}, {api.ErrCount, []byte{3, 6, 1, 2, 0, 6}}, {api.ErrCount, []byte{3, 6, 1, 2, 1, 6}}, {api.ErrCount, []byte{3, 6, 1, 2, 3}},
		{api.ErrRef, []byte{3, 5, 1, 2}}, {api.ErrRef, []byte{3, 7, 1, 2}}, {api.ErrRef, []byte{3, 0, 1, 2}}, {api.ErrRef, []byte{3, 5, 1, 2, 4}}, {api.ErrRef, []byte{5, 3, 1, 2, 3, 4}},
		// The byte ahead of the reference counts first.
		{api.ErrCount, []byte{1, 5, 1, 2}}, {api.ErrCount, []byte{2, 5, 1, 2}}, {api.ErrCount, []byte{4, 5, 1, 2, 3}}, {api.ErrCount, []byte{5, 5, 1, 2}}, {api.ErrCount, []byte{0, 0, 0, 0}}, {api.ErrCount, []byte{6, 6, 6, 6, 6, 6, 6}},
	} {
		expectTold(t, row{1, 20}, block(x.part), x.e)
		expectTold(t, row{1, 20}, block(ahead, x.part), x.e)
		expectTold(t, row{1, 20}, append(block(x.part), 3), orLong(x.e))
	}
}

// P11.1: of code 21 every Count, with so many bytes left, alone and as a later part.
func TestEveryWrittenCount(t *testing.T) {
	t.Parallel()
	for x := range 65536 {
		for dir := range 2 {
			for _, left := range []int{2, 3, 4, 5, 20, 21, 244} {
				rest := append(ask(4, 1, x), noise(left)...)
				e := api.ErrCount
				if x > 0 && 2*x <= left && left-2*x != 0 {
					// More bytes than the part has; they are another part, of which the reference, or a field, is wrong.
					expectModel(t, dir, 21, block(rest))
					continue
				}
				if x > 0 && 2*x == left {
					e = api.OK
				}
				expectTold(t, row{dir, 21}, block(rest), e)
				if left < 200 {
					expectTold(t, row{dir, 21}, block(put(1, 1, words(3)), rest), e)
				}
			}
		}
	}
}

// P11.1: of code 21 a Count at both sides of how many bytes are left, of each number of words.
func TestWrittenBounds(t *testing.T) {
	for dir := range 2 {
		r := row{dir, 21}
		for n := 1; n <= 122; n++ {
			for _, more := range []int{-1, 0, 1, 2, 127, 128, 256, 32767, 32768, 65535 - 122} {
				part := append(ask(4, 7, n+more), bigWords(words(n))...)
				switch {
				case more == 0:
					expectTold(t, r, block(part), api.OK)
				case more > 0 || n == 1:
					expectTold(t, r, block(part), api.ErrCount)
				default:
					// The last word's bytes are another part, which ends in its midst, or begins with another byte.
					for _, x := range [][]byte{{6, 0}, {6, 255}} {
						expectTold(t, r, block(part[:len(part)-2], x), api.ErrCount)
					}
					expectTold(t, r, block(part[:len(part)-2], []byte{7, 6}), api.ErrRef)
				}
			}
			// A byte too few, and too many, for the words.
			whole := put(4, 7, words(n))
			if n > 1 {
				expectTold(t, r, block(whole[:len(whole)-1]), api.ErrCount)
			}
			if n < 122 {
				expectTold(t, r, block(whole, []byte{6}), api.ErrCount)
				expectTold(t, r, block(whole, []byte{7}), api.ErrRef)
				expectTold(t, r, block(whole, []byte{0}), api.ErrRef)
			}
		}
	}
}

// firstOf is the first error of a list that isn't OK.
func firstOf(l ...api.Errno) api.Errno {
	for _, e := range l {
		if e != api.OK {
			return e
		}
	}
	return api.OK
}

// P11.1: of a part all fields right or wrong, in all ways at once: the first that is read counts.
func TestSeveralWrong(t *testing.T) {
	for _, r := range rows() {
		if !r.hasPlaces() {
			continue
		}
		for wrong := range 16 {
			part := r.part(1, 3)
			var l [4]api.Errno
			for i, x := range []struct {
				from int
				to   []byte
				e    api.Errno
			}{{0, []byte{9}, api.ErrRef}, {1, []byte{0, 0}, api.ErrValue}, {3, []byte{39, 16}, api.ErrAddr}, {5, []byte{0, 0}, api.ErrCount}} {
				if wrong>>i&1 == 1 {
					copy(part[x.from:], x.to)
					l[i] = x.e
				}
			}
			expectAround(t, r, part, firstOf(l[:]...))
			if wrong>>3&1 == 1 {
				copy(part[5:], []byte{255, 255})
				expectAround(t, r, part, firstOf(l[:]...))
			}
		}
	}
}

// wrongParts is parts of a row with one thing wrong in each.
func wrongParts(r row) map[api.Errno][][]byte {
	if !r.hasPlaces() {
		return map[api.Errno][][]byte{
			api.OK:       {tell(words(1)), tell(words(2))},
			api.ErrRef:   {{3, 5, 0, 1}},
			api.ErrCount: {{2, 6, 0, 1}, {1, 6, 0, 1}, {251, 6, 0, 1}},
		}
	}
	of := func(file, record, count int) []byte {
		if r.c == 20 {
			return ask(file, record, count)
		}
		return append(ask(file, record, count), 0, 9)
	}
	return map[api.Errno][][]byte{
		api.OK:       {of(1, 0, 1), of(65535, 9999, 1)},
		api.ErrRef:   {append([]byte{5}, of(1, 0, 1)[1:]...)},
		api.ErrValue: {of(0, 0, 1)},
		api.ErrAddr:  {of(1, 10000, 1), of(1, 65535, 1)},
		api.ErrCount: {of(1, 0, 0), of(1, 0, 200)},
	}
}

// P11.1: of three parts, each right or wrong: the error of the first that is wrong counts.
func TestPartsWrong(t *testing.T) {
	for _, r := range rows() {
		l := wrongParts(r)
		for e1, parts1 := range l {
			for e2, parts2 := range l {
				for e3, parts3 := range l {
					for _, a := range parts1 {
						for _, b := range parts2 {
							for _, c := range parts3 {
								e := firstOf(e1, e2, e3)
								expectTold(t, r, block(a, b, c), e)
								expectTold(t, r, append(block(a, b, c), 6), orLong(e))
								expectTold(t, r, block(a, b, c)[:len(a)+len(b)+len(c)], api.ErrShort)
							}
						}
					}
				}
			}
		}
	}
}

// P11.1: a block that ends in the midst of a part is ErrCount, and the part's fields ahead of the end count first.
func TestMidst(t *testing.T) {
	for _, s := range samples() {
		for n := 1; n < len(s.b)-1; n++ {
			b := append([]byte{byte(n)}, s.b[1:1+n]...)
			expectModel(t, s.dir, s.c, b)
			if !s.may(n) {
				expectError(t, s.dir, s.c, b, api.ErrCount)
			}
			// What the part lacks stands behind the block, and is no part of it.
			if _, e := model(s.dir, s.c, b); e == api.ErrCount {
				expectError(t, s.dir, s.c, append(b, s.b[1+n:]...), api.ErrCount)
			}
		}
	}
	for dir := range 2 {
		for ahead := 1; ahead < 4; ahead++ {
			first := put(3, 3, words(ahead))
			for end := 1; end < 11; end++ {
				expectTold(t, row{dir, 21}, block(first, put(4, 5, words(2))[:end]), api.ErrCount)
				expectTold(t, row{dir, 21}, block(first, append([]byte{7}, put(0, 10000, words(2))[1:]...)[:end]), api.ErrRef)
				if end >= 3 {
					expectTold(t, row{dir, 21}, block(first, put(0, 10000, words(2))[:end]), api.ErrValue)
				}
				if end >= 5 {
					expectTold(t, row{dir, 21}, block(first, put(1, 10000, words(2))[:end]), api.ErrAddr)
				}
			}
			for end := 1; end < 6; end++ {
				expectTold(t, row{1, 20}, block(tell(words(ahead)), tell(words(2))[:end]), api.ErrCount)
			}
		}
	}
}

// P11.1: parts of all lengths whose bytes just fill the block.
func TestFilled(t *testing.T) {
	for dir := range 2 {
		for a := 1; a < 117; a++ {
			b := 118 - a
			l := []api.Rec{{File: 1, Record: 2, Count: uint16(a), Words: words(a)}, {File: 3, Record: 4, Count: uint16(b), Words: words(b)}}
			expectParts(t, row{dir, 21}, block(partBytes(row{dir, 21}, l)...), l...)
		}
	}
	for a := 1; a < 120; a++ {
		l := []api.Rec{{Words: words(a)}, {Words: words(120 - a)}}
		expectParts(t, row{1, 20}, block(partBytes(row{1, 20}, l)...), l...)
	}
	for n := 1; n <= 35; n++ {
		var l []api.Rec
		for i := range n {
			l = append(l, api.Rec{File: uint16(n + 1), Record: uint16(i), Count: 2})
		}
		expectParts(t, row{0, 20}, block(partBytes(row{0, 20}, l)...), l...)
	}
}

// P11.1: bytes that look like no pattern, and samples with each byte changed, against the table told in another way.
func TestAgainstModel(t *testing.T) {
	t.Parallel()
	for _, r := range rows() {
		for n := range 600 {
			for _, b := range [][]byte{noise(n), make([]byte, n), bytes.Repeat([]byte{255}, n), bytes.Repeat([]byte{6}, n)} {
				expectModel(t, r.dir, r.c, b)
			}
		}
	}
	for _, s := range samples() {
		for i := range s.b {
			b := slices.Clone(s.b)
			for _, x := range []byte{0, 1, 2, 3, 5, 6, 7, 39, 127, 128, 254, 255, b[i] + 1, b[i] - 1, b[i] + 2, b[i] - 2} {
				b[i] = x
				expectModel(t, s.dir, s.c, b)
			}
			if i > 12 {
				continue
			}
			for x := range 256 {
				b[i] = byte(x)
				expectModel(t, s.dir, s.c, b)
			}
		}
	}
}

// P11.1: blocks of parts that are right in most fields, cut or with bytes more, against the table told in another way.
func TestMixedBlocks(t *testing.T) {
	t.Parallel()
	chances := noise(1 << 20)
	chance := func(n int) int {
		if len(chances) < 2 {
			chances = noise(1<<20 - n)
		}
		x := at(chances, 0) % n
		chances = chances[2:]
		return x
	}
	pick := func(right, wrong int) int {
		if chance(24) == 0 {
			return wrong
		}
		return right
	}
	for _, r := range rows() {
		told := map[api.Errno]int{}
		for range 60000 {
			var rest []byte
			for range 1 + chance(5) {
				n := 1 + chance(4)
				part := []byte{byte(pick(6, chance(9)))}
				if r.hasPlaces() {
					part = append(part, big(pick(1+chance(9), 0), pick(9999-chance(9), 10000+chance(9)), pick(n, chance(150)))...)
				} else {
					part = append([]byte{byte(pick(1+2*n, chance(12)))}, part...)
				}
				if r != (row{0, 20}) {
					part = append(part, noise(2*n)...)
				}
				rest = append(rest, part...)
			}
			b := append([]byte{byte(pick(len(rest), len(rest)-2+chance(5)))}, rest...)
			b = append(b[:pick(len(b), chance(len(b)))], noise(pick(0, 1+chance(3)))...)
			_, e := model(r.dir, r.c, b)
			told[e]++
			expectModel(t, r.dir, r.c, b)
		}
		for _, e := range []api.Errno{api.OK, api.ErrShort, api.ErrLong, api.ErrCount, api.ErrRef} {
			if told[e] < 100 {
				t.Errorf("%v: %d blocks tell %d", r, told[e], e)
			}
		}
	}
}

// setField gives a field of a message a value that isn't zero, the smallest or the greatest of its kind.
func setField(v reflect.Value, greatest bool) {
	switch v.Kind() {
	case reflect.Uint8, reflect.Uint16:
		v.SetUint(1)
		if greatest {
			v.SetUint(1<<v.Type().Bits() - 1)
		}
	case reflect.Slice:
		n := 1
		if greatest {
			n = 70000
		}
		v.Set(reflect.MakeSlice(v.Type(), n, n))
	default:
		panic("the tests know no field of kind " + v.Kind().String())
	}
}

// P11.2: a field set that no form names: each field of api.Msg by itself, of each row.
func TestWriteOtherFields(t *testing.T) {
	for _, s := range samples() {
		for i := range reflect.TypeFor[api.Msg]().NumField() {
			name := reflect.TypeFor[api.Msg]().Field(i).Name
			if name == "Code" || name == "Recs" {
				continue
			}
			for _, greatest := range []bool{false, true} {
				m := s.m
				setField(reflect.ValueOf(&m).Elem().Field(i), greatest)
				expectNone(t, name, s.dir, m)
			}
		}
	}
}

// P11.2, R1: a message of which one field alone is set, beside its code, or not even that: none has a form, as each form has a part, and no part is of zero alone.
func TestWriteOneField(t *testing.T) {
	for dir := range 2 {
		for c := range 256 {
			expectNone(t, "no field", dir, api.Msg{Code: uint8(c)})
			for i := 1; i < reflect.TypeFor[api.Msg]().NumField(); i++ {
				for _, greatest := range []bool{false, true} {
					m := api.Msg{Code: uint8(c)}
					setField(reflect.ValueOf(&m).Elem().Field(i), greatest)
					expectNone(t, reflect.TypeFor[api.Msg]().Field(i).Name, dir, m)
				}
			}
		}
	}
}

// P11.2: each code that has no form; and a direction beside both.
func TestWriteCodeAndDirection(t *testing.T) {
	for i, s := range samples() {
		for _, dir := range beside() {
			expectNone(t, "direction", dir, s.m)
		}
		for c := range 256 {
			m := s.m
			m.Code = uint8(c)
			for dir := range 2 {
				if c != 20 && c != 21 {
					expectNone(t, "code", dir, m)
				}
				expectRow(t, dir, m)
			}
			if i%9 > 0 {
				continue
			}
			for _, dir := range beside() {
				expectNone(t, "code and direction", dir, m)
			}
		}
	}
}

// P11.2: a message is written in another row just if it has a form there: code 21's in both directions, code 20's in its own.
func TestWriteOtherRow(t *testing.T) {
	for _, s := range samples() {
		expectRowIs(t, true, s.dir, s.m)
		expectRowIs(t, s.c == 21, 1-s.dir, s.m)
		other := s.m
		other.Code = 41 - s.c
		expectNone(t, "other code", s.dir, other)
		expectNone(t, "other code and direction", 1-s.dir, other)
	}
}

// P11.2: messages that have no form, told one by one.
func TestWriteNone(t *testing.T) {
	two := []uint16{1, 2}
	for what, l := range map[string]map[row][]api.Rec{
		"no part":           {{0, 20}: nil, {1, 20}: {}, {0, 21}: nil, {1, 21}: {}},
		"a part of nothing": {{0, 20}: {{}}, {1, 20}: {{}}, {0, 21}: {{}}, {1, 21}: {{}}},
		"Words where none are asked for": {
			{0, 20}: {{File: 1, Record: 1, Count: 2, Words: two}},
		},
		"Words in the last part alone": {{0, 20}: {{File: 1, Count: 1}, {File: 1, Count: 1, Words: []uint16{0}}}},
		"a File where none is told":    {{1, 20}: {{File: 1, Words: two}}},
		"a Record where none is told":  {{1, 20}: {{Record: 1, Words: two}}},
		"a Count where none is told":   {{1, 20}: {{Count: 2, Words: two}}},
		"a Count in the last part":     {{1, 20}: {{Words: two}, {Count: 2, Words: two}}},
		"no Words":                     {{1, 20}: {{Words: two}, {}}, {0, 21}: {{File: 1, Count: 1}}, {1, 21}: {{File: 1, Count: 1}}},
		"no File": {
			{0, 20}: {{Record: 1, Count: 2}}, {0, 21}: {{Count: 2, Words: two}}, {1, 21}: {{Count: 2, Words: two}},
		},
		"a Record of 10000": {
			{0, 20}: {{File: 1, Record: 10000, Count: 2}}, {0, 21}: {{File: 1, Record: 10000, Count: 2, Words: two}}, {1, 21}: {{File: 1, Record: 10000, Count: 2, Words: two}},
		},
		"no Count": {
			{0, 20}: {{File: 1, Record: 1}}, {0, 21}: {{File: 1, Words: two}}, {1, 21}: {{File: 1}},
		},
		"a Count above its Words": {{0, 21}: {{File: 1, Count: 3, Words: two}}, {1, 21}: {{File: 1, Count: 258, Words: two}}},
		"a Count below its Words": {{0, 21}: {{File: 1, Count: 1, Words: two}}, {1, 21}: {{File: 1, Count: 1, Words: words(257)}}},
	} {
		for r, parts := range l {
			m := api.Msg{Code: r.c, Recs: parts}
			expectNone(t, what, r.dir, m)
			expectRowIs(t, false, r.dir, m)
		}
	}
}

// P11.2: every number in each field of a part, in the first part and in a later one, with none of the other fields wrong.
func TestWriteEveryNumber(t *testing.T) {
	t.Parallel()
	for x := range 65536 {
		n := uint16(x)
		for _, dir := range []int{0, 1} {
			for _, later := range []bool{false, true} {
				of := func(may bool, c uint8, ahead, p api.Rec) {
					t.Helper()
					l := []api.Rec{p}
					if later {
						l = []api.Rec{ahead, p}
					}
					expectRowIs(t, may, dir, api.Msg{Code: c, Recs: l})
				}
				first, one := api.Rec{File: 1, Count: 1}, []uint16{7}
				most := uint16(121)
				if later {
					most = 119
				}
				of(dir == 0 && n > 0, 20, first, api.Rec{File: n, Record: 1, Count: 2})
				of(dir == 0 && n < 10000, 20, first, api.Rec{File: 1, Record: n, Count: 2})
				of(dir == 0 && n > 0 && n <= most, 20, first, api.Rec{File: 1, Record: 2, Count: n})
				of(dir == 1, 20, api.Rec{Words: one}, api.Rec{Words: []uint16{n, 3}})
				first.Words = one
				of(n > 0, 21, first, api.Rec{File: n, Record: 1, Count: 1, Words: one})
				of(n < 10000, 21, first, api.Rec{File: 1, Record: n, Count: 1, Words: one})
				of(n == 1, 21, first, api.Rec{File: 1, Record: 2, Count: n, Words: one})
				of(true, 21, first, api.Rec{File: 1, Record: 2, Count: 1, Words: []uint16{n}})
			}
		}
	}
}

// P11.2: in code 20's response every File, Record or Count that is set.
func TestWriteToldPlaces(t *testing.T) {
	t.Parallel()
	for x := 1; x < 65536; x++ {
		for _, p := range []api.Rec{{File: uint16(x)}, {Record: uint16(x)}, {Count: uint16(x)}} {
			p.Words = []uint16{1}
			expectNone(t, "a place", 1, api.Msg{Code: 20, Recs: []api.Rec{p}})
		}
	}
}

// lengths is lengths of lists, those whose number, or 2, 7 or 9 times of it, has the lowest bits of another one among them.
func lengths() []int {
	l := []int{32767, 32768, 32769, 65535, 65536, 65537, 65538, 65536 + 121, 65536 + 122, 1 << 17, 1<<20 + 1}
	for n := range 700 {
		l = append(l, n)
	}
	return l
}

// P11.2: a part of Words of all lengths, alone and as a later one.
func TestWriteWords(t *testing.T) {
	for _, n := range lengths() {
		for _, list := range [][]uint16{words(n), make([]uint16, n), slices.Repeat([]uint16{1541}, n)} {
			told, put := api.Rec{Words: list}, api.Rec{File: 9, Record: 8, Count: uint16(n), Words: list}
			expectRowIs(t, n >= 1 && n <= 121, 1, api.Msg{Code: 20, Recs: []api.Rec{told}})
			expectRowIs(t, n >= 1 && n <= 119, 1, api.Msg{Code: 20, Recs: []api.Rec{{Words: []uint16{1}}, told}})
			expectRowIs(t, n >= 1 && n <= 119, 1, api.Msg{Code: 20, Recs: []api.Rec{told, {Words: []uint16{1}}}})
			expectRowIs(t, n == 0, 0, api.Msg{Code: 20, Recs: []api.Rec{{File: 9, Count: 1, Words: list}}})
			for dir := range 2 {
				one := api.Rec{File: 1, Record: 1, Count: 1, Words: []uint16{1}}
				expectRowIs(t, n >= 1 && n <= 122, dir, api.Msg{Code: 21, Recs: []api.Rec{put}})
				expectRowIs(t, n >= 1 && n <= 117, dir, api.Msg{Code: 21, Recs: []api.Rec{one, put}})
				expectRowIs(t, n >= 1 && n <= 117, dir, api.Msg{Code: 21, Recs: []api.Rec{put, one}})
			}
		}
	}
}

// P11.2: so many parts, of the fewest words and of more.
func TestWriteParts(t *testing.T) {
	for _, n := range lengths() {
		for size := 1; size < 4; size++ {
			list := words(size)
			asked := slices.Repeat([]api.Rec{{File: 1, Count: uint16(size)}}, n)
			told := slices.Repeat([]api.Rec{{Words: list}}, n)
			put := slices.Repeat([]api.Rec{{File: 1, Count: uint16(size), Words: list}}, n)
			expectRowIs(t, n >= 1 && n <= 35 && n*(1+size) <= 122, 0, api.Msg{Code: 20, Recs: asked})
			expectRowIs(t, n >= 1 && n*(2+2*size) <= 245, 1, api.Msg{Code: 20, Recs: told})
			expectRowIs(t, n >= 1 && n*(7+2*size) <= 251, 0, api.Msg{Code: 21, Recs: put})
			expectRowIs(t, n >= 1 && n*(7+2*size) <= 251, 1, api.Msg{Code: 21, Recs: put})
		}
		none := slices.Repeat([]api.Rec{{}}, n)
		for _, r := range rows() {
			expectRowIs(t, false, r.dir, api.Msg{Code: r.c, Recs: none})
		}
	}
}

// P11.2, R1: very many parts that share one very long list are refused without being written at length.
func TestWriteFar(t *testing.T) {
	list := make([]uint16, 1<<22)
	for _, p := range []api.Rec{{Words: list}, {File: 1, Count: 1, Words: list}, {File: 1, Count: 65535, Words: list[:65535]}} {
		l := slices.Repeat([]api.Rec{p}, 1<<20)
		for _, r := range rows() {
			expectNone(t, "far", r.dir, api.Msg{Code: r.c, Recs: l})
		}
	}
}

// P11.2, R4: lists that are nil and lists that are empty are the same, within a part too.
func TestEmptyLists(t *testing.T) {
	for _, s := range samples() {
		for _, empty := range []func(m *api.Msg){
			func(m *api.Msg) { m.Words = []uint16{} },
			func(m *api.Msg) { m.Bits = []bool{} },
			func(m *api.Msg) { m.Data = make([]byte, 0, 3) },
			func(m *api.Msg) { m.Objects = []api.Object{} },
			func(m *api.Msg) {
				m.Recs = slices.Clone(m.Recs)
				for i, p := range m.Recs {
					if len(p.Words) == 0 && i%2 == 0 {
						m.Recs[i].Words = make([]uint16, 0, 3)
					}
				}
			},
		} {
			m := s.m
			empty(&m)
			expectWrite(t, s.dir, m, true, s.b)
		}
	}
	for _, r := range rows() {
		for _, l := range [][]api.Rec{nil, {}, make([]api.Rec, 0, 5)} {
			expectNone(t, "no parts", r.dir, api.Msg{Code: r.c, Recs: l})
		}
		for _, l := range [][]uint16{nil, {}, make([]uint16, 0, 5)} {
			expectRow(t, r.dir, api.Msg{Code: r.c, Recs: []api.Rec{{Words: l}}})
			expectRow(t, r.dir, api.Msg{Code: r.c, Recs: []api.Rec{{File: 1, Count: 1, Words: l}}})
		}
	}
	expectWrite(t, 0, api.Msg{Code: 20, Recs: []api.Rec{{File: 1, Count: 1, Words: []uint16{}}}}, true, []byte{7, 6, 0, 1, 0, 0, 0, 1})
}

// P11.3: unlike bytes are unlike messages, and unlike messages have unlike bytes, of one code and direction.
func TestOneToOne(t *testing.T) {
	t.Parallel()
	for _, r := range rows() {
		byMessage, byBytes := map[string]string{}, map[string]string{}
		for _, b := range candidates() {
			m, e := Parse(r.dir, r.c, b)
			if e != api.OK {
				continue
			}
			w, e := Write(r.dir, m)
			if e != api.OK {
				t.Fatalf("Write(%d, %v) = %d", r.dir, m, e)
			}
			told := fmt.Sprint(m)
			if was, ok := byMessage[told]; ok && was != string(b) {
				t.Fatalf("%s is told of %v and of %v", told, []byte(was), b)
			}
			if was, ok := byBytes[string(w)]; ok && was != told {
				t.Fatalf("%v is written of %s and of %s", w, was, told)
			}
			byMessage[told], byBytes[string(w)] = string(b), told
		}
		if len(byMessage) < 1000 || len(byMessage) != len(byBytes) {
			t.Errorf("%v: %d messages, %d lists of bytes", r, len(byMessage), len(byBytes))
		}
	}
}

// candidates is bytes of which some are one another's neighbours: the samples, with each of their bytes changed, and with the same words shared out among parts in other ways.
func candidates() [][]byte {
	var all [][]byte
	for _, s := range samples() {
		all = append(all, s.b)
		for i := range s.b {
			for _, x := range []byte{1, 2, 3, 4, 128} {
				b := slices.Clone(s.b)
				b[i] ^= x
				all = append(all, b)
			}
		}
	}
	for a := range 6 {
		for b := range 6 {
			for c := range 6 {
				l := ones(a + b + c)
				all = append(all, block(tell(l[:a]), tell(l[:b]), tell(l[:c])), block(put(1, 1, l[:a]), put(1, 1, l[:b]), put(1, 1, l[:c])), block(ask(1, 1, a), ask(1, 1, b), ask(1, 1, c)))
			}
		}
	}
	return all
}

// P11.2, P11.3: messages of many mixed fields, against the rows told in another way; no two of them have the same bytes.
func TestMixedMessages(t *testing.T) {
	t.Parallel()
	numbers := []uint16{0, 1, 1, 1, 2, 3, 6, 121, 122, 9999, 10000, 65535}
	for _, r := range rows() {
		written := map[string]api.Msg{}
		chances := noise(20 * 60000)
		for seed := range 60000 {
			x := chances[20*seed : 20*seed+20]
			m := api.Msg{Code: r.c}
			for i := range int(x[0]) % 4 {
				y := x[1+6*i : 7+6*i]
				of := func(j int) uint16 { return numbers[int(y[j])%len(numbers)] }
				p := api.Rec{File: of(0), Record: of(1), Count: of(2), Words: words(int(y[3]) % 4)}
				if y[4]%8 > 0 {
					keepMost(&p, r, y[5])
				}
				m.Recs = append(m.Recs, p)
			}
			if x[19]%16 == 0 {
				m.Addr = 1
			}
			expectRow(t, r.dir, m)
			b, e := Write(r.dir, m)
			if e != api.OK {
				continue
			}
			if was, ok := written[string(b)]; ok && !code.Same(was, m) {
				t.Fatalf("Write(%d, ..) of %v and of %v = %v", r.dir, was, m, b)
			}
			written[string(b)] = m
		}
		if len(written) < 30 {
			t.Errorf("%v: %d messages were written", r, len(written))
		}
	}
}

// keepMost takes away of a part what its row doesn't name.
func keepMost(p *api.Rec, r row, chance byte) {
	switch r {
	case row{0, 20}:
		p.Words = nil
	case row{1, 20}:
		p.File, p.Record, p.Count = 0, 0, 0
	default:
		p.Count = uint16(len(p.Words))
	}
	if r.hasPlaces() && chance%4 > 0 {
		p.File, p.Record = max(p.File, 1), min(p.Record, 9999)
	}
}

// R6: what a call answers doesn't hang on calls ahead of it.
func TestAgain(t *testing.T) {
	for range 10 {
		for _, s := range samples() {
			expect(t, s.dir, s.c, s.b, s.m, api.OK)
			expectModel(t, s.dir, s.c, append(slices.Clone(s.b), 0))
			expectModel(t, s.dir, s.c, s.b[:1])
		}
	}
}

// roomy is a message of the same parts, with something behind the end of each list, in the list's room.
func roomy(m api.Msg) api.Msg {
	l := append(slices.Clone(m.Recs), api.Rec{File: 91, Words: []uint16{92}}, api.Rec{Count: 93})
	for i := range m.Recs {
		n := len(l[i].Words)
		l[i].Words = append(slices.Clone(l[i].Words), 94, 95, 96)[:n]
	}
	m.Recs = l[:len(m.Recs)]
	return m
}

// all is a copy of all that a message's parts have, behind the ends of their lists too.
func all(m api.Msg) []api.Rec {
	l := slices.Clone(m.Recs[:cap(m.Recs)])
	for i := range l {
		l[i].Words = slices.Clone(l[i].Words[:cap(l[i].Words)])
	}
	return l
}

// spoil changes all that a message's parts have, behind the ends of their lists too.
func spoil(m api.Msg) {
	l := m.Recs[:cap(m.Recs)]
	for i := range l {
		w := l[i].Words[:cap(l[i].Words)]
		for j := range w {
			w[j] ^= 65535
		}
		l[i] = api.Rec{File: l[i].File ^ 65535, Record: l[i].Record ^ 65535, Count: l[i].Count ^ 65535}
	}
}

// R5: Parse doesn't change the bytes, nor what is behind their end, and its answer doesn't hang on them, nor on another one.
func TestParseMemory(t *testing.T) {
	for _, s := range samples() {
		room := append(slices.Clone(s.b), 91, 92, 93)
		was := slices.Clone(room)
		m, _ := Parse(s.dir, s.c, room[:len(s.b)])
		if !bytes.Equal(room, was) {
			t.Fatalf("Parse(%d, %d, %v) changes what was handed in to %v", s.dir, s.c, was, room)
		}
		other, _ := Parse(s.dir, s.c, room[:len(s.b)])
		for i := range room {
			room[i] ^= 255
		}
		if !code.Same(m, s.m) {
			t.Fatalf("Parse(%d, %d, %v) hangs on the bytes that were handed in", s.dir, s.c, s.b)
		}
		now := slices.Clone(room)
		spoil(m)
		if !bytes.Equal(room, now) {
			t.Fatalf("Parse(%d, %d, %v) tells lists that share memory with what was handed in", s.dir, s.c, s.b)
		}
		if again, e := Parse(s.dir, s.c, s.b); e != api.OK || !code.Same(other, s.m) || !code.Same(again, s.m) {
			t.Fatalf("answers of Parse(%d, %d, %v) share memory", s.dir, s.c, s.b)
		}
	}
}

// R5: no two parts of one answer share memory, behind the ends of their lists too.
func TestPartsMemory(t *testing.T) {
	for _, s := range samples() {
		for i := range s.m.Recs {
			m, _ := Parse(s.dir, s.c, s.b)
			l := m.Recs[i].Words[:cap(m.Recs[i].Words)]
			for j := range l {
				l[j] ^= 65535
			}
			_ = append(m.Recs[i].Words, 1, 2, 3)
			m.Recs[i].Words = s.m.Recs[i].Words
			if !code.Same(m, s.m) {
				t.Fatalf("parts of Parse(%d, %d, %v) share memory", s.dir, s.c, s.b)
			}
		}
	}
}

// R5: Write doesn't change the message, nor what is behind its lists' ends, and its answer doesn't hang on it, nor on another one.
func TestWriteMemory(t *testing.T) {
	for _, s := range samples() {
		m := roomy(s.m)
		was := all(m)
		b, _ := Write(s.dir, m)
		if !reflect.DeepEqual(all(m), was) {
			t.Fatalf("Write(%d, %v) changes what was handed in", s.dir, s.m)
		}
		other, _ := Write(s.dir, m)
		spoil(m)
		if !bytes.Equal(b, s.b) {
			t.Fatalf("Write(%d, %v) hangs on what was handed in", s.dir, s.m)
		}
		was = all(m)
		clear(b[:cap(b)])
		if !reflect.DeepEqual(all(m), was) {
			t.Fatalf("Write(%d, %v) tells bytes that share memory with what was handed in", s.dir, s.m)
		}
		if again, e := Write(s.dir, s.m); e != api.OK || !bytes.Equal(other, s.b) || !bytes.Equal(again, s.b) {
			t.Fatalf("answers of Write(%d, %v) share memory", s.dir, s.m)
		}
	}
}

// R5: with an error too, nothing that was handed in is changed.
func TestErrorsChangeNothing(t *testing.T) {
	for _, b := range anyBytes() {
		for dir := -1; dir < 3; dir++ {
			for c := range 256 {
				was := slices.Clone(b)
				Parse(dir, uint8(c), b)
				if !bytes.Equal(b, was) {
					t.Fatalf("Parse(%d, %d, %v) changes what was handed in to %v", dir, c, was, b)
				}
			}
		}
	}
	for _, s := range samples() {
		for dir := -1; dir < 3; dir++ {
			m := roomy(s.m)
			m.Addr = 1
			was := all(m)
			expectNone(t, "too much", dir, m)
			if !reflect.DeepEqual(all(m), was) {
				t.Fatalf("Write(%d, %v) changes what was handed in", dir, s.m)
			}
		}
	}
}
