package pdu

import (
	"bytes"
	"fmt"
	"math"
	"reflect"
	"slices"
	"strings"
	"testing"

	"busbar/api"
	"busbar/code"
	"busbar/coils"
	"busbar/diag"
	"busbar/files"
	"busbar/mei"
	"busbar/refusal"
	"busbar/regs"
)

// noise is n bytes that look like no pattern, the same ones each time.
func noise(n int) []byte {
	b := make([]byte, n)
	x := uint32(n)*2654435761 + 1
	for i := range b {
		x = x*1664525 + 1013904223
		b[i] = byte(x >> 24)
	}
	return b
}

// beside is directions that are none.
func beside() []int {
	return []int{-1, 2, 3, -2, 7, 128, 255, 256, 257, 65536, 65537, 1 << 32, 1<<32 + 1, math.MinInt, math.MinInt + 1, math.MaxInt}
}

// numbers is n numbers, from first on.
func numbers(n int, first uint16) []uint16 {
	l := make([]uint16, n)
	for i := range l {
		l[i] = first + uint16(i)*259
	}
	return l
}

// inBytes is numbers in bytes, the higher one first.
func inBytes(l ...uint16) []byte {
	b := []byte{}
	for _, x := range l {
		b = append(b, byte(x>>8), byte(x))
	}
	return b
}

// flags is n bits, every third one set.
func flags(n int) []bool {
	l := make([]bool, n)
	for i := range l {
		l[i] = i%3 == 0
	}
	return l
}

// inBits is bits in bytes, the first one lowest.
func inBits(l []bool) []byte {
	b := make([]byte, (len(l)+7)/8)
	for i, x := range l {
		if x {
			b[i/8] |= 1 << (i % 8)
		}
	}
	return b
}

// asks is all public codes, told one by one.
func asks() []int {
	return []int{1, 2, 3, 4, 5, 6, 7, 8, 11, 12, 15, 16, 17, 20, 21, 22, 23, 24, 43}
}

// whys is all reasons of a refusal, told one by one.
func whys() []int { return []int{1, 2, 3, 4, 5, 6, 8, 10, 11} }

// The numbers that may be.
func isAsk(x int) bool { return slices.Contains(asks(), x) }
func isWhy(x int) bool { return slices.Contains(whys(), x) }

// calls is the two calls of a layer.
type calls struct {
	parse func(int, uint8, []byte) (api.Msg, api.Errno)
	write func(int, api.Msg) ([]byte, api.Errno)
}

// layerOf is the calls of the layer that has a code; none, if none has.
func layerOf(c int) calls {
	for _, x := range []struct {
		codes []int
		of    calls
	}{
		{[]int{1, 2, 5, 15}, calls{coils.Parse, coils.Write}},
		{[]int{3, 4, 6, 16, 22, 23, 24}, calls{regs.Parse, regs.Write}},
		{[]int{7, 8, 11, 12, 17}, calls{diag.Parse, diag.Write}},
		{[]int{20, 21}, calls{files.Parse, files.Write}},
		{[]int{43}, calls{mei.Parse, mei.Write}},
	} {
		if slices.Contains(x.codes, c) {
			return x.of
		}
	}
	return calls{}
}

// model is the chapter's first promise, told of the layers' own calls.
func model(dir int, b []byte) (api.Msg, api.Errno) {
	if dir != 0 && dir != 1 {
		return api.Msg{}, api.ErrArg
	}
	if len(b) < 1 {
		return api.Msg{}, api.ErrShort
	}
	if len(b) >= 254 {
		return api.Msg{}, api.ErrLong
	}
	if b[0] >= 128 && dir == 1 {
		return refusal.Parse(b)
	}
	if l := layerOf(int(b[0])); l.parse != nil {
		return l.parse(dir, b[0], b[1:])
	}
	return api.Msg{}, api.ErrCode
}

// formBytes is the bytes of a message, told of the layers' own calls; and whether there are any.
func formBytes(dir int, m api.Msg) ([]byte, bool) {
	if dir != 0 && dir != 1 {
		return nil, false
	}
	if m.Fail > 0 {
		may := dir == 1 && isAsk(int(m.Code)) && isWhy(int(m.Fail)) && code.Same(m, api.Msg{Code: m.Code, Fail: m.Fail})
		return []byte{m.Code + 128, m.Fail}, may
	}
	l := layerOf(int(m.Code))
	if l.write == nil {
		return nil, false
	}
	b, e := l.write(dir, m)
	return append([]byte{m.Code}, b...), e == api.OK && len(b) < 253
}

// short is bytes that a test tells, not all of very many.
func short(b []byte) string { return fmt.Sprint(len(b), " bytes: ", b[:min(len(b), 16)]) }

// expect asks Parse, and, of what is told, Write: of an error no message is told, of a message the same bytes are written.
func expect(t *testing.T, dir int, b []byte, want api.Msg, e api.Errno) {
	t.Helper()
	got, gotE := Parse(dir, b)
	if gotE != e || !code.Same(got, want) {
		t.Fatalf("Parse(%d, %s) = %v, %d, want %v, %d", dir, short(b), got, gotE, want, e)
	}
	if e != api.OK {
		return
	}
	if back, backE := Write(dir, got); backE != api.OK || !bytes.Equal(back, b) {
		t.Fatalf("Write(%d, %v) = %v, %d, want %v", dir, got, back, backE, b)
	}
}

// expectModel is expect of what model tells.
func expectModel(t *testing.T, dir int, b []byte) {
	t.Helper()
	want, e := model(dir, b)
	expect(t, dir, b, want, e)
}

// expectError is expect of an error, and no message.
func expectError(t *testing.T, dir int, b []byte, e api.Errno) {
	t.Helper()
	expect(t, dir, b, api.Msg{}, e)
}

// expectNone asks that Write tells ErrArg, and no bytes.
func expectNone(t *testing.T, what string, dir int, m api.Msg) {
	t.Helper()
	if b, e := Write(dir, m); e != api.ErrArg || len(b) != 0 {
		t.Fatalf("%s: Write(%d, code %d, fail %d, ..) = %v, %d, want none and ErrArg", what, dir, m.Code, m.Fail, b, e)
	}
}

// expectWrite asks for those bytes of a message that may be, and none of another one.
func expectWrite(t *testing.T, dir int, m api.Msg, may bool, b []byte) {
	t.Helper()
	if !may {
		expectNone(t, "may not be", dir, m)
	} else if got, e := Write(dir, m); e != api.OK || !bytes.Equal(got, b) {
		t.Fatalf("Write(%d, %v) = %v, %d, want %v", dir, m, got, e, b)
	}
}

// expectForm is expectWrite of what formBytes tells; and tells whether there are bytes.
func expectForm(t *testing.T, dir int, m api.Msg) bool {
	t.Helper()
	b, may := formBytes(dir, m)
	expectWrite(t, dir, m, may, b)
	return may
}

// expectFormIs is expectForm, and asks that formBytes tells bytes, or none, as the test's own words do.
func expectFormIs(t *testing.T, may bool, dir int, m api.Msg) {
	t.Helper()
	if expectForm(t, dir, m) != may {
		t.Fatalf("the tests tell both that Write(%d, %v) has bytes and that it has none", dir, m)
	}
}

// sample is bytes of a message, the message that they are, and the names of the fields that it may have beside its code.
type sample struct {
	dir int
	b   []byte
	m   api.Msg
	has string
}

// rows is a request and a response of every code, told byte by byte, and field by field; of code 8 and code 43 more than one of each.
func rows() []sample {
	return slices.Concat(rowsOfBits(), rowsOfWords(), rowsOfLines(), rowsOfDevices())
}

func rowsOfBits() []sample {
	return []sample{
		{0, []byte{1, 0, 19, 0, 20}, api.Msg{Code: 1, Addr: 19, Count: 20}, "Addr Count"},
		{1, []byte{1, 3, 205, 107, 5}, api.Msg{Code: 1, Data: []byte{205, 107, 5}}, "Data"},
		{0, []byte{2, 1, 196, 7, 208}, api.Msg{Code: 2, Addr: 452, Count: 2000}, "Addr Count"},
		{1, []byte{2, 1, 53}, api.Msg{Code: 2, Data: []byte{53}}, "Data"},
		{0, []byte{5, 0, 172, 255, 0}, api.Msg{Code: 5, Addr: 172, Value: 65280}, "Addr Value"},
		{1, []byte{5, 255, 255, 0, 0}, api.Msg{Code: 5, Addr: 65535}, "Addr Value"},
		{0, []byte{15, 0, 19, 0, 10, 2, 205, 1}, api.Msg{Code: 15, Addr: 19, Count: 10, Bits: []bool{true, false, true, true, false, false, true, true, true, false}}, "Addr Count Bits"},
		{1, []byte{15, 0, 19, 0, 10}, api.Msg{Code: 15, Addr: 19, Count: 10}, "Addr Count"},
	}
}

func rowsOfWords() []sample {
	return []sample{
		{0, []byte{3, 0, 107, 0, 3}, api.Msg{Code: 3, Addr: 107, Count: 3}, "Addr Count"},
		{1, []byte{3, 4, 2, 43, 0, 100}, api.Msg{Code: 3, Words: []uint16{555, 100}}, "Words"},
		{0, []byte{4, 0, 8, 0, 125}, api.Msg{Code: 4, Addr: 8, Count: 125}, "Addr Count"},
		{1, []byte{4, 2, 0, 10}, api.Msg{Code: 4, Words: []uint16{10}}, "Words"},
		{0, []byte{6, 0, 1, 0, 3}, api.Msg{Code: 6, Addr: 1, Value: 3}, "Addr Value"},
		{1, []byte{6, 255, 255, 2, 1}, api.Msg{Code: 6, Addr: 65535, Value: 513}, "Addr Value"},
		{0, []byte{16, 0, 1, 0, 2, 4, 0, 10, 1, 2}, api.Msg{Code: 16, Addr: 1, Count: 2, Words: []uint16{10, 258}}, "Addr Count Words"},
		{1, []byte{16, 0, 1, 0, 123}, api.Msg{Code: 16, Addr: 1, Count: 123}, "Addr Count"},
		{0, []byte{22, 0, 4, 0, 242, 0, 37}, api.Msg{Code: 22, Addr: 4, And: 242, Or: 37}, "Addr And Or"},
		{1, []byte{22, 1, 0, 2, 0, 3, 0}, api.Msg{Code: 22, Addr: 256, And: 512, Or: 768}, "Addr And Or"},
		{0, []byte{23, 0, 3, 0, 6, 0, 14, 0, 1, 2, 0, 255}, api.Msg{Code: 23, Addr: 3, Count: 6, Addr2: 14, Words: []uint16{255}}, "Addr Count Addr2 Words"},
		{1, []byte{23, 2, 0, 254}, api.Msg{Code: 23, Words: []uint16{254}}, "Words"},
		{0, []byte{24, 4, 222}, api.Msg{Code: 24, Addr: 1246}, "Addr"},
		{1, []byte{24, 0, 6, 0, 2, 1, 184, 18, 132}, api.Msg{Code: 24, Words: []uint16{440, 4740}}, "Words"},
		{1, []byte{24, 0, 2, 0, 0}, api.Msg{Code: 24}, "Words"},
	}
}

func rowsOfLines() []sample {
	return []sample{
		{0, []byte{7}, api.Msg{Code: 7}, ""},
		{1, []byte{7, 109}, api.Msg{Code: 7, Value: 109}, "Value"},
		{0, []byte{8, 0, 0, 165, 55}, api.Msg{Code: 8, Words: []uint16{42295}}, "Sub Words"},
		{1, []byte{8, 0, 0, 165, 55, 0, 1}, api.Msg{Code: 8, Words: []uint16{42295, 1}}, "Sub Words"},
		{0, []byte{8, 0, 1, 255, 0}, api.Msg{Code: 8, Sub: 1, Words: []uint16{65280}}, "Sub Words"},
		{0, []byte{8, 0, 4, 0, 0}, api.Msg{Code: 8, Sub: 4, Words: []uint16{0}}, "Sub Words"},
		{1, []byte{8, 0, 18, 1, 0}, api.Msg{Code: 8, Sub: 18, Words: []uint16{256}}, "Sub Words"},
		{0, []byte{11}, api.Msg{Code: 11}, ""},
		{1, []byte{11, 255, 255, 1, 8}, api.Msg{Code: 11, Status: 65535, Events: 264}, "Status Events"},
		{0, []byte{12}, api.Msg{Code: 12}, ""},
		{1, []byte{12, 8, 0, 0, 1, 8, 1, 33, 32, 0}, api.Msg{Code: 12, Events: 264, Messages: 289, Data: []byte{32, 0}}, "Status Events Messages Data"},
		{0, []byte{17}, api.Msg{Code: 17}, ""},
		{1, []byte{17, 2, 9, 255}, api.Msg{Code: 17, Data: []byte{9, 255}}, "Data"},
	}
}

func rowsOfDevices() []sample {
	two := []api.Rec{{File: 4, Record: 1, Count: 2}, {File: 3, Record: 9, Count: 1}}
	return []sample{
		{0, []byte{20, 14, 6, 0, 4, 0, 1, 0, 2, 6, 0, 3, 0, 9, 0, 1}, api.Msg{Code: 20, Recs: two}, "Recs"},
		{1, []byte{20, 10, 5, 6, 13, 254, 0, 32, 3, 6, 51, 205}, api.Msg{Code: 20, Recs: []api.Rec{{Words: []uint16{3582, 32}}, {Words: []uint16{13261}}}}, "Recs"},
		{0, []byte{21, 9, 6, 0, 4, 0, 7, 0, 1, 6, 175}, api.Msg{Code: 21, Recs: []api.Rec{{File: 4, Record: 7, Count: 1, Words: []uint16{1711}}}}, "Recs"},
		{1, []byte{21, 9, 6, 255, 255, 39, 15, 0, 1, 1, 2}, api.Msg{Code: 21, Recs: []api.Rec{{File: 65535, Record: 9999, Count: 1, Words: []uint16{258}}}}, "Recs"},
		{0, []byte{43, 14, 1, 0}, api.Msg{Code: 43, Mei: 14, Kind: 1}, "Mei Kind Next"},
		{0, []byte{43, 14, 4, 131}, api.Msg{Code: 43, Mei: 14, Kind: 4, Next: 131}, "Mei Kind Next"},
		{1, []byte{43, 14, 1, 1, 255, 2, 1, 0, 2, 65, 66}, api.Msg{Code: 43, Mei: 14, Kind: 1, Level: 1, More: 255, Next: 2, Objects: []api.Object{{Value: []byte("AB")}}}, "Mei Kind Level More Next Objects"},
		{1, []byte{43, 14, 3, 131, 0, 0, 0}, api.Msg{Code: 43, Mei: 14, Kind: 3, Level: 131}, "Mei Kind Level More Next Objects"},
		{0, []byte{43, 13, 43, 14}, api.Msg{Code: 43, Mei: 13, Data: []byte{43, 14}}, "Mei Data"},
		{1, []byte{43, 13}, api.Msg{Code: 43, Mei: 13}, "Mei Data"},
		{1, []byte{131, 2}, api.Msg{Code: 3, Fail: 2}, "Fail"},
		{1, []byte{129, 1}, api.Msg{Code: 1, Fail: 1}, "Fail"},
		{1, []byte{171, 11}, api.Msg{Code: 43, Fail: 11}, "Fail"},
	}
}

// longest is the longest message of each code that has lists, in each direction.
func longest() []sample {
	w, d := func(n int) []uint16 { return numbers(n, 300) }, noise
	bits := flags(1968)
	objects := []api.Object{{ID: 1, Value: d(200)}, {ID: 2, Value: d(42)}}
	var l []sample
	for _, c := range []uint8{1, 2} {
		l = append(l, sample{1, slices.Concat([]byte{c, 250}, d(250)), api.Msg{Code: c, Data: d(250)}, "Data"})
	}
	for _, c := range []uint8{3, 4, 23} {
		l = append(l, sample{1, slices.Concat([]byte{c, 250}, inBytes(w(125)...)), api.Msg{Code: c, Words: w(125)}, "Words"})
	}
	return append(l,
		sample{0, slices.Concat([]byte{15, 1, 2, 7, 176, 246}, inBits(bits)), api.Msg{Code: 15, Addr: 258, Count: 1968, Bits: bits}, "Addr Count Bits"},
		sample{0, slices.Concat([]byte{16, 1, 2, 0, 123, 246}, inBytes(w(123)...)), api.Msg{Code: 16, Addr: 258, Count: 123, Words: w(123)}, "Addr Count Words"},
		sample{0, slices.Concat([]byte{23, 1, 2, 0, 125, 3, 4, 0, 121, 242}, inBytes(w(121)...)), api.Msg{Code: 23, Addr: 258, Count: 125, Addr2: 772, Words: w(121)}, "Addr Count Addr2 Words"},
		sample{1, slices.Concat([]byte{24, 0, 64, 0, 31}, inBytes(w(31)...)), api.Msg{Code: 24, Words: w(31)}, "Words"},
		sample{0, slices.Concat([]byte{8, 0, 0}, inBytes(w(125)...)), api.Msg{Code: 8, Words: w(125)}, "Sub Words"},
		sample{1, slices.Concat([]byte{8, 0, 0}, inBytes(w(125)...)), api.Msg{Code: 8, Words: w(125)}, "Sub Words"},
		sample{1, slices.Concat([]byte{12, 70, 255, 255, 0, 1, 0, 2}, d(64)), api.Msg{Code: 12, Status: 65535, Events: 1, Messages: 2, Data: d(64)}, "Status Events Messages Data"},
		sample{1, slices.Concat([]byte{17, 251}, d(251)), api.Msg{Code: 17, Data: d(251)}, "Data"},
		sample{0, slices.Concat([]byte{20, 245}, bytes.Repeat([]byte{6, 0, 4, 0, 1, 0, 1}, 35)), api.Msg{Code: 20, Recs: slices.Repeat([]api.Rec{{File: 4, Record: 1, Count: 1}}, 35)}, "Recs"},
		sample{1, slices.Concat([]byte{20, 244, 243, 6}, inBytes(w(121)...)), api.Msg{Code: 20, Recs: []api.Rec{{Words: w(121)}}}, "Recs"},
		sample{0, slices.Concat([]byte{21, 251, 6, 0, 4, 0, 7, 0, 122}, inBytes(w(122)...)), api.Msg{Code: 21, Recs: []api.Rec{{File: 4, Record: 7, Count: 122, Words: w(122)}}}, "Recs"},
		sample{1, slices.Concat([]byte{21, 251, 6, 0, 4, 0, 7, 0, 122}, inBytes(w(122)...)), api.Msg{Code: 21, Recs: []api.Rec{{File: 4, Record: 7, Count: 122, Words: w(122)}}}, "Recs"},
		sample{0, slices.Concat([]byte{43, 13}, d(251)), api.Msg{Code: 43, Mei: 13, Data: d(251)}, "Mei Data"},
		sample{1, slices.Concat([]byte{43, 13}, d(251)), api.Msg{Code: 43, Mei: 13, Data: d(251)}, "Mei Data"},
		sample{1, slices.Concat([]byte{43, 14, 1, 1, 0, 0, 2, 1, 200}, d(200), []byte{2, 42}, d(42)), api.Msg{Code: 43, Mei: 14, Kind: 1, Level: 1, Objects: objects}, "Mei Kind Level More Next Objects"},
	)
}

// samples is all of these, and all refusals.
func samples() []sample {
	l := slices.Concat(rows(), longest())
	for _, ask := range asks() {
		for _, why := range whys() {
			l = append(l, sample{1, []byte{byte(ask + 128), byte(why)}, api.Msg{Code: uint8(ask), Fail: uint8(why)}, "Fail"})
		}
	}
	return l
}

// The chapter's examples.
func TestExamples(t *testing.T) {
	expect(t, api.Request, []byte{3, 0, 107, 0, 3}, api.Msg{Code: 3, Addr: 107, Count: 3}, api.OK)
	expect(t, api.Response, []byte{131, 2}, api.Msg{Code: 3, Fail: 2}, api.OK)
}

// The whole document's examples of messages.
func TestExamplesOfTheWhole(t *testing.T) {
	expect(t, api.Request, []byte{7}, api.Msg{Code: 7}, api.OK)
	expectError(t, api.Request, []byte{3, 0, 107, 0, 126}, api.ErrCount)
	expectError(t, api.Request, []byte{1, 255, 255, 0, 2}, api.ErrAddr)
	expectError(t, api.Request, []byte{131, 2}, api.ErrCode)
}

// P14.1, P14.2: messages of every row, both ways.
func TestRows(t *testing.T) {
	for _, s := range samples() {
		expect(t, s.dir, s.b, s.m, api.OK)
		expectModel(t, 1-s.dir, s.b)
	}
}

// P14.3: just the public codes are read and written, in both directions; and, of responses, refused.
func TestEveryPublicCode(t *testing.T) {
	read := map[[2]int]bool{}
	for _, s := range samples() {
		m, e := Parse(s.dir, s.b)
		b, f := Write(s.dir, s.m)
		if e == api.OK && f == api.OK && code.Same(m, s.m) && bytes.Equal(b, s.b) {
			read[[2]int{s.dir, int(s.b[0])}] = true
		}
	}
	for dir := range 2 {
		for c := range 256 {
			want := isAsk(c) || dir == 1 && isAsk(c-128)
			if read[[2]int{dir, c}] != want {
				t.Errorf("first byte %d, direction %d: a message is read and written: %v", c, dir, !want)
			}
		}
	}
	if len(read) != 19*3 {
		t.Errorf("%d first bytes in both directions, want 57", len(read))
	}
}

// behind is what may stand behind a first byte, of which each is a form's, or none's; of all numbers of bytes that count.
func behind() [][]byte {
	l := [][]byte{nil, {}, {0}, {2}, {255}, {0, 0}, {0, 107, 0, 3}, {255, 255, 0, 2}, {14, 1, 0}, {13}, {15}, {0, 0, 165, 55}, {0, 21, 0, 0}, {7, 6, 0, 4, 0, 1, 0, 2}, {4, 2, 43, 0, 0}}
	for _, n := range []int{1, 2, 3, 4, 5, 9, 100, 250, 251, 252, 253, 254, 255, 256, 300, 1000} {
		l = append(l, noise(n), make([]byte, n), bytes.Repeat([]byte{255}, n))
	}
	for _, s := range rows() {
		l = append(l, s.b[1:], append(slices.Clone(s.b[1:]), 0))
	}
	for _, s := range longest() {
		l = append(l, s.b[1:], append(slices.Clone(s.b[1:]), 0))
	}
	return l
}

// P14.1: directions beside both are ErrArg, with no byte and with too many as well, whatever the first byte is.
func TestDirection(t *testing.T) {
	for _, dir := range beside() {
		expectError(t, dir, nil, api.ErrArg)
		expectError(t, dir, []byte{}, api.ErrArg)
		for _, rest := range behind() {
			for c := range 256 {
				if c%7 == 0 || len(rest) < 6 || len(rest) > 250 && c%3 == 0 {
					expectError(t, dir, append([]byte{byte(c)}, rest...), api.ErrArg)
				}
			}
		}
		for _, s := range samples() {
			expectError(t, dir, s.b, api.ErrArg)
		}
	}
}

// P14.1: nothing is too short, nil or empty; what is behind its end, in the list's room, is not there.
func TestNothing(t *testing.T) {
	for dir := range 2 {
		expectError(t, dir, nil, api.ErrShort)
		expectError(t, dir, []byte{}, api.ErrShort)
		for _, s := range samples() {
			expectError(t, dir, s.b[:0], api.ErrShort)
		}
	}
}

// P14.1: more than 253 bytes are ErrLong, whatever the first byte is, and whatever is behind it; of 253 bytes the code's layer tells.
func TestLong(t *testing.T) {
	for dir := range 2 {
		for c := range 256 {
			for _, n := range []int{254, 255, 256, 257, 300, 509, 510, 512, 65536, 65789} {
				b := noise(n)
				b[0] = byte(c)
				expectError(t, dir, b, api.ErrLong)
				clear(b[1:])
				expectError(t, dir, b, api.ErrLong)
				expectModel(t, dir, b[:253])
				expectModel(t, dir, b[:252])
			}
			if !isAsk(c) && (dir == 0 || !isAsk(c-128)) {
				expectError(t, dir, append([]byte{byte(c)}, make([]byte, 252)...), api.ErrCode)
			}
		}
	}
	for _, s := range samples() {
		for _, n := range []int{254, 255, 256, 300, 506, 512} {
			expectError(t, s.dir, append(slices.Clone(s.b), make([]byte, n-len(s.b))...), api.ErrLong)
			expectError(t, s.dir, append(slices.Clone(s.b), noise(n-len(s.b))...), api.ErrLong)
		}
	}
}

// P14.1: messages of just 253 bytes, and the layer's own error of 253 bytes.
func TestJustLong(t *testing.T) {
	n := 0
	for _, s := range longest() {
		if len(s.b) == 253 {
			n++
			expect(t, s.dir, s.b, s.m, api.OK)
		}
		expectError(t, s.dir, append(slices.Clone(s.b), make([]byte, 254-len(s.b))...), api.ErrLong)
	}
	if n < 7 {
		t.Errorf("%d messages have 253 bytes", n)
	}
	expectError(t, 0, append([]byte{7}, make([]byte, 252)...), api.ErrLong)
	expectError(t, 0, append([]byte{3}, make([]byte, 252)...), api.ErrCount)
	expectError(t, 1, append([]byte{43}, make([]byte, 252)...), api.ErrSub)
	expectError(t, 1, append([]byte{131}, make([]byte, 252)...), api.ErrValue)
	expectError(t, 1, append([]byte{131, 2}, make([]byte, 251)...), api.ErrLong)
	expectError(t, 1, append([]byte{137}, make([]byte, 252)...), api.ErrCode)
}

// P14.1: every first byte in both directions, with all kinds of bytes behind it.
func TestFirstByte(t *testing.T) {
	t.Parallel()
	for dir := range 2 {
		for c := range 256 {
			for _, rest := range behind() {
				b := append([]byte{byte(c)}, rest...)
				expectModel(t, dir, b)
				if len(b) > 253 {
					continue
				}
				switch {
				case c >= 128 && dir == 1:
					m, e := refusal.Parse(b)
					expect(t, dir, b, m, e)
				case c >= 128, !isAsk(c):
					expectError(t, dir, b, api.ErrCode)
				}
			}
		}
	}
}

// P14.1: every first byte alone, and every two bytes: what is told of these, told by words.
func TestEveryTwoBytes(t *testing.T) {
	t.Parallel()
	for dir := range 2 {
		for x := range 256 {
			e := api.ErrShort
			switch {
			case dir == 0 && (x == 7 || x == 11 || x == 12 || x == 17):
				expect(t, dir, []byte{byte(x)}, api.Msg{Code: uint8(x)}, api.OK)
				continue
			case !isAsk(x) && (dir == 0 || !isAsk(x-128)):
				e = api.ErrCode
			}
			expectError(t, dir, []byte{byte(x)}, e)
		}
		for i := range 65536 {
			b := []byte{byte(i >> 8), byte(i)}
			expectModel(t, dir, b)
			if dir == 1 && isAsk(i>>8-128) && isWhy(i&255) {
				expect(t, dir, b, api.Msg{Code: uint8(i>>8 - 128), Fail: uint8(i)}, api.OK)
			}
		}
	}
}

// P14.1: a refusal is a Response's alone, whatever its reason; as a Request it is ErrCode.
func TestRefusals(t *testing.T) {
	for ask := range 128 {
		for why := range 256 {
			b := []byte{byte(ask + 128), byte(why)}
			expectError(t, 0, b, api.ErrCode)
			expectError(t, 0, append(b, 0), api.ErrCode)
			switch {
			case !isAsk(ask):
				expectError(t, 1, b, api.ErrCode)
			case !isWhy(why):
				expectError(t, 1, b, api.ErrValue)
				expectError(t, 1, append(b, 0), api.ErrValue)
			default:
				expect(t, 1, b, api.Msg{Code: uint8(ask), Fail: uint8(why)}, api.OK)
				expectError(t, 1, append(b, 0), api.ErrLong)
			}
		}
	}
}

// P14.1: where several things are wrong, the first that the promise names counts.
func TestSeveralWrong(t *testing.T) {
	long := func(b ...byte) []byte { return append(b, make([]byte, 254-len(b))...) }
	for _, x := range []struct {
		dir int
		b   []byte
		e   api.Errno
	}{
		{2, nil, api.ErrArg}, {-1, nil, api.ErrArg}, {2, long(9), api.ErrArg}, {2, []byte{9}, api.ErrArg}, {2, []byte{131, 2}, api.ErrArg}, {2, []byte{3}, api.ErrArg},
		{0, long(9), api.ErrLong}, {1, long(9), api.ErrLong}, {0, long(131, 2), api.ErrLong}, {1, long(131, 2), api.ErrLong}, {1, long(137, 2), api.ErrLong}, {0, long(0), api.ErrLong}, {0, long(255), api.ErrLong},
		{0, long(3, 0, 107, 0, 126), api.ErrLong}, {0, long(43, 15), api.ErrLong}, {1, long(43, 13), api.ErrLong}, {0, long(8, 0, 21), api.ErrLong}, {1, long(20, 6, 3, 7), api.ErrLong},
		{0, []byte{131}, api.ErrCode}, {1, []byte{131}, api.ErrShort}, {0, []byte{131, 7}, api.ErrCode}, {1, []byte{131, 7}, api.ErrValue}, {0, []byte{131, 2, 0}, api.ErrCode}, {1, []byte{131, 2, 0}, api.ErrLong}, {1, []byte{131, 7, 0}, api.ErrValue},
		{0, []byte{137}, api.ErrCode}, {1, []byte{137}, api.ErrCode}, {1, []byte{137, 7, 9}, api.ErrCode}, {1, []byte{128}, api.ErrCode}, {1, []byte{255, 255, 255}, api.ErrCode},
		{0, []byte{9}, api.ErrCode}, {1, []byte{9, 1, 2}, api.ErrCode}, {0, []byte{0}, api.ErrCode}, {0, []byte{127}, api.ErrCode}, {1, []byte{127, 2}, api.ErrCode}, {1, []byte{44}, api.ErrCode}, {0, []byte{42, 14, 1, 0}, api.ErrCode},
		{0, []byte{3, 0, 107, 0, 126, 0}, api.ErrCount}, {0, []byte{3, 255, 255, 0, 2, 0}, api.ErrAddr}, {0, []byte{3, 0, 107, 0, 3, 0}, api.ErrLong}, {0, []byte{3, 0, 107, 0}, api.ErrShort},
		{0, []byte{5, 0, 172, 1, 0, 9}, api.ErrValue}, {0, []byte{43, 15, 1, 0, 0}, api.ErrSub}, {0, []byte{20, 7, 7, 0, 0, 0, 1, 0, 2, 9}, api.ErrRef}, {1, []byte{8, 0, 4, 0, 0, 0}, api.ErrSub}, {0, []byte{16, 0, 1, 0, 1, 2, 0}, api.ErrShort},
	} {
		expectModel(t, x.dir, x.b)
		expectError(t, x.dir, x.b, x.e)
	}
}

// P14.1, P14.3: bytes that are cut off, or have more behind them, are never told as the same message.
func TestCutAndLong(t *testing.T) {
	t.Parallel()
	for _, s := range samples() {
		for n := range len(s.b) {
			if m, e := Parse(s.dir, s.b[:n]); e == api.OK && code.Same(m, s.m) {
				t.Fatalf("Parse(%d, ..) tells the same of %v and of its first %d bytes", s.dir, s.b, n)
			}
			expectModel(t, s.dir, s.b[:n])
			expectModel(t, 1-s.dir, s.b[:n])
		}
		for x := range 256 {
			for _, more := range [][]byte{{byte(x)}, {byte(x), byte(x)}, {0, byte(x)}, noise(x + 1)} {
				b := slices.Concat(s.b, more)
				if m, e := Parse(s.dir, b); e == api.OK && code.Same(m, s.m) {
					t.Fatalf("Parse(%d, ..) tells the same of %v and with %v behind it", s.dir, s.b, more)
				}
				expectModel(t, s.dir, b)
			}
		}
	}
}

// P14.1: bytes that look like no pattern, and samples with each byte changed, against the promise told of the layers' own calls.
func TestAgainstModel(t *testing.T) {
	t.Parallel()
	for dir := range 2 {
		for n := range 300 {
			for _, b := range [][]byte{noise(n), make([]byte, n), bytes.Repeat([]byte{255}, n), bytes.Repeat([]byte{43}, n), bytes.Repeat([]byte{131}, n)} {
				expectModel(t, dir, b)
			}
			for _, c := range asks() {
				expectModel(t, dir, append([]byte{byte(c)}, noise(n)...))
				expectModel(t, dir, append([]byte{byte(c)}, make([]byte, n)...))
				expectModel(t, dir, append([]byte{byte(c + 128)}, noise(n)...))
			}
		}
	}
	for _, s := range slices.Concat(rows(), longest()) {
		for i := range s.b {
			for x := 1; x < 256; x++ {
				if i > 12 && x&(x-1) > 0 {
					continue
				}
				b := slices.Clone(s.b)
				b[i] ^= byte(x)
				expectModel(t, s.dir, b)
				expectModel(t, 1-s.dir, b)
			}
		}
	}
}

// R1: very many bytes are taken, too.
func TestHuge(t *testing.T) {
	huge := make([]byte, 1<<26)
	for dir := range 2 {
		for _, c := range []byte{0, 3, 8, 43, 127, 128, 131, 255} {
			huge[0] = c
			expectError(t, dir, huge, api.ErrLong)
		}
	}
	expectError(t, 2, huge, api.ErrArg)
}

// setField gives a field of a message a value that isn't zero, the smallest or the greatest of its kind.
func setField(v reflect.Value, greatest bool) {
	switch v.Kind() {
	case reflect.Uint8, reflect.Uint16:
		v.SetUint(1)
		if greatest {
			v.SetUint(1<<v.Type().Bits() - 1)
		}
	case reflect.Slice:
		n := 1
		if greatest {
			n = 70000
		}
		v.Set(reflect.MakeSlice(v.Type(), n, n))
	default:
		panic("the tests know no field of kind " + v.Kind().String())
	}
}

// fields is the names of a message's fields.
func fields() []string {
	var l []string
	for i := range reflect.TypeFor[api.Msg]().NumField() {
		l = append(l, reflect.TypeFor[api.Msg]().Field(i).Name)
	}
	return l
}

// with is a message with one field set.
func with(m api.Msg, name string, greatest bool) api.Msg {
	setField(reflect.ValueOf(&m).Elem().FieldByName(name), greatest)
	return m
}

// P14.2: each field that a form does not have, set by itself; and each that it has, set to another value.
func TestWriteOtherFields(t *testing.T) {
	t.Parallel()
	for _, s := range slices.Concat(rows(), longest()) {
		n := 0
		for _, name := range fields() {
			for _, greatest := range []bool{false, true} {
				m := with(s.m, name, greatest)
				expectForm(t, s.dir, m)
				expectForm(t, 1-s.dir, m)
				// Just a message of which all else is zero may be a refusal, too, when it gets a reason.
				refused := name == "Fail" && s.dir == 1 && code.Same(s.m, api.Msg{Code: s.m.Code})
				if name != "Code" && !refused && !slices.Contains(strings.Fields(s.has), name) {
					n++
					expectNone(t, name, s.dir, m)
				}
			}
		}
		if n < 2*14 {
			t.Errorf("%v: only %d fields were set", s.m, n)
		}
	}
}

// P14.2: every number in each field of 8 bits, and many in those of 16, of every row.
func TestWriteNumbers(t *testing.T) {
	t.Parallel()
	for _, s := range rows() {
		for _, name := range fields() {
			m := s.m
			v := reflect.ValueOf(&m).Elem().FieldByName(name)
			if v.Kind() == reflect.Slice {
				continue
			}
			for x := range 1 << v.Type().Bits() {
				if x < 300 || x%256 == 0 || x > 65500 {
					v.SetUint(uint64(x))
					expectForm(t, s.dir, m)
				}
			}
		}
	}
}

// P14.2: a message of which one field alone is set, beside its code.
func TestWriteOneField(t *testing.T) {
	t.Parallel()
	for c := range 256 {
		expectFormIs(t, slices.Contains([]int{7, 11, 12, 17, 6, 5, 22, 24}, c), 0, api.Msg{Code: uint8(c)})
		expectFormIs(t, slices.Contains([]int{7, 11, 12, 6, 5, 22, 24}, c), 1, api.Msg{Code: uint8(c)})
		for dir := -1; dir < 3; dir++ {
			for _, name := range fields()[1:] {
				for _, greatest := range []bool{false, true} {
					m := with(api.Msg{Code: uint8(c)}, name, greatest)
					may := expectForm(t, dir, m)
					if may && (!isAsk(c) || dir < 0 || dir > 1 || greatest && m.Fail > 0) {
						t.Fatalf("%v may not be, of direction %d", m, dir)
					}
				}
			}
		}
	}
}

// P14.2: the fields of each sample with every code: none with a code that no layer has, nor with Bad.
func TestWriteCodes(t *testing.T) {
	t.Parallel()
	for _, s := range samples() {
		for c := range 256 {
			m := s.m
			m.Code = uint8(c)
			for dir := range 2 {
				may := expectForm(t, dir, m)
				if may && !isAsk(c) || may != (dir == 1 && isAsk(c)) && m.Fail > 0 {
					t.Fatalf("%v may not be, of direction %d", m, dir)
				}
			}
		}
	}
}

// P14.2: no message has bytes in a direction beside both.
func TestWriteDirection(t *testing.T) {
	for _, dir := range beside() {
		for _, s := range samples() {
			expectNone(t, "direction", dir, s.m)
		}
		for c := range 256 {
			expectNone(t, "direction", dir, api.Msg{Code: uint8(c)})
			expectNone(t, "direction", dir, api.Msg{Code: uint8(c), Fail: 2})
		}
	}
}

// P14.2: every Code with every Fail, in both directions.
func TestWriteRefusals(t *testing.T) {
	t.Parallel()
	for c := range 256 {
		for why := 1; why < 256; why++ {
			m := api.Msg{Code: uint8(c), Fail: uint8(why)}
			expectNone(t, "a refusal as a request", 0, m)
			expectWrite(t, 1, m, isAsk(c) && isWhy(why), []byte{byte(c + 128), byte(why)})
		}
	}
	for _, s := range slices.Concat(rows(), longest()) {
		for why := 1; why < 256; why++ {
			m := s.m
			m.Fail = uint8(why)
			alone := code.Same(m, api.Msg{Code: m.Code, Fail: m.Fail}) && isWhy(why)
			expectNone(t, "a refusal as a request", 0, m)
			expectFormIs(t, alone, 1, m)
		}
	}
}

// P14.2: messages that may not be, told one by one.
func TestWriteNone(t *testing.T) {
	for what, l := range map[string][2][]api.Msg{
		"nothing":                    {{{}}, {{}}},
		"a code that no layer has":   {{{Code: 99}, {Code: 9}, {Code: 13, Addr: 1}, {Code: 44, Mei: 13}, {Code: 127}}, {{Code: 99}, {Code: 9}, {Code: 18}, {Code: 127, Data: []byte{1}}}},
		"Bad":                        {{{Code: 128}, {Code: 131}, {Code: 131, Addr: 107, Count: 3}, {Code: 135}, {Code: 255}}, {{Code: 128}, {Code: 131}, {Code: 135, Value: 109}, {Code: 171, Mei: 13}}},
		"Bad and a reason":           {{{Code: 131, Fail: 2}}, {{Code: 131, Fail: 2}, {Code: 128, Fail: 1}, {Code: 171, Fail: 11}}},
		"a refused request":          {{{Code: 3, Fail: 2}, {Code: 7, Fail: 1}, {Code: 3, Fail: 2, Addr: 107, Count: 3}}, {{Code: 3, Fail: 2, Addr: 107, Count: 3}}},
		"a refusal with words":       {nil, {{Code: 3, Fail: 2, Words: []uint16{1}}, {Code: 24, Fail: 4, Words: make([]uint16, 1)}, {Code: 43, Mei: 13, Fail: 1}}},
		"no such reason":             {nil, {{Code: 3, Fail: 7}, {Code: 3, Fail: 9}, {Code: 3, Fail: 12}, {Code: 3, Fail: 255}}},
		"another direction's fields": {{{Code: 3, Words: []uint16{555}}, {Code: 7, Value: 1}, {Code: 11, Status: 65535}, {Code: 20, Recs: []api.Rec{{Words: []uint16{1}}}}}, {{Code: 3, Addr: 107, Count: 3}, {Code: 17}, {Code: 43, Mei: 14, Kind: 1}}},
		"another code's fields":      {{{Code: 5, Addr: 1, Value: 3}, {Code: 1, Addr: 19, Count: 20, Bits: flags(20)}, {Code: 22, Addr: 1, Value: 3}}, {{Code: 15, Data: []byte{1}}, {Code: 2, Words: []uint16{1}}, {Code: 24, Addr: 1}, {Code: 21, Recs: []api.Rec{{Words: []uint16{1}}}}}},
		"a count too many":           {{{Code: 3, Addr: 107, Count: 126}, {Code: 15, Count: 1969, Bits: flags(1969)}, {Code: 8, Words: numbers(126, 1)}}, {{Code: 3, Words: numbers(126, 1)}, {Code: 17, Data: noise(252)}, {Code: 43, Mei: 13, Data: noise(252)}}},
	} {
		for dir, messages := range l {
			for _, m := range messages {
				expectNone(t, what, dir, m)
				expectFormIs(t, false, dir, m)
			}
		}
	}
}

// P14.2: a message of code 43 has bytes while there are no more than 253 of them: its layer's own form has no such end.
func TestWriteLong(t *testing.T) {
	t.Parallel()
	message := func(lengths ...int) api.Msg {
		m := api.Msg{Code: 43, Mei: 14, Kind: 2, Level: 2}
		for i, n := range lengths {
			m.Objects = append(m.Objects, api.Object{ID: uint8(i), Value: noise(n)})
		}
		return m
	}
	for n := range 300 {
		expectFormIs(t, 7+2+n <= 253, 1, message(n))
		expectFormIs(t, 7+2+n+2+40 <= 253, 1, message(n, 40))
		expectFormIs(t, 7+2+n+2+40 <= 253, 1, message(40, n))
		expectFormIs(t, 7+2+n+2+40+2+1 <= 253, 1, message(1, 40, n))
		expectFormIs(t, 7+2*n <= 253, 1, message(make([]int, n)...))
		expectFormIs(t, 7+3*n <= 253, 1, message(slices.Repeat([]int{1}, n)...))
	}
	for _, n := range []int{1, 2, 255} {
		m := message(slices.Repeat([]int{255}, n)...)
		if b, e := mei.Write(1, m); e != api.OK || len(b) < 252 {
			t.Errorf("mei has %d bytes for %d objects of 255 bytes, and tells %d", len(b), n, e)
		}
		expectNone(t, "too long", 1, m)
	}
}

// P14.2, R1: messages of very long lists are refused.
func TestWriteFar(t *testing.T) {
	words, data := make([]uint16, 1<<22), make([]byte, 1<<24)
	bit, part, object := make([]bool, 1<<24), slices.Repeat([]api.Rec{{Count: 1, Words: words}}, 1<<16), slices.Repeat([]api.Object{{Value: data}}, 1<<16)
	for c := range 256 {
		if c%13 > 0 && !isAsk(c) {
			continue
		}
		for dir := range 2 {
			for _, m := range []api.Msg{{Words: words}, {Data: data}, {Bits: bit}, {Recs: part}, {Objects: object}, {Mei: 13, Data: data}, {Mei: 14, Kind: 1, Level: 1, Objects: object}, {Fail: 2, Words: words, Data: data, Bits: bit, Recs: part, Objects: object}} {
				m.Code = uint8(c)
				expectNone(t, "far", dir, m)
			}
		}
	}
}

// P14.2, R4: lists that are nil and lists that are empty are the same, within a part and an object too.
func TestEmptyLists(t *testing.T) {
	for _, s := range samples() {
		m := s.m
		v := reflect.ValueOf(&m).Elem()
		for i := range v.NumField() {
			if f := v.Field(i); f.Kind() == reflect.Slice && f.Len() == 0 {
				for _, room := range []int{0, 3} {
					f.Set(reflect.MakeSlice(f.Type(), 0, room))
					expectWrite(t, s.dir, m, true, s.b)
				}
				// It stays empty, so that at the end all of them are.
			}
		}
		m.Recs, m.Objects = slices.Clone(m.Recs), slices.Clone(m.Objects)
		for i := range m.Recs {
			m.Recs[i].Words = append(make([]uint16, 0, 200), m.Recs[i].Words...)
		}
		for i := range m.Objects {
			m.Objects[i].Value = append(make([]byte, 0, 300), m.Objects[i].Value...)
		}
		expectWrite(t, s.dir, m, true, s.b)
	}
}

// candidates is bytes of which some are one another's neighbours: the samples, with each of their bytes changed, cut off and with more behind.
func candidates() [][]byte {
	var all [][]byte
	for _, s := range samples() {
		all = append(all, s.b, append(slices.Clone(s.b), 0), s.b[:len(s.b)-1], append(slices.Clone(s.b), 0, 1), s.b[:max(len(s.b)-2, 0)])
		for i := range min(len(s.b), 60) {
			for _, x := range []byte{1, 2, 3, 4, 8, 16, 32, 64, 128, 255} {
				b := slices.Clone(s.b)
				b[i] ^= x
				all = append(all, b)
			}
		}
	}
	for i := range 65536 {
		all = append(all, []byte{byte(i >> 8), byte(i)})
	}
	return all
}

// P14.3: unlike bytes are unlike messages, and unlike messages have unlike bytes, of one direction.
func TestOneToOne(t *testing.T) {
	t.Parallel()
	for dir := range 2 {
		byMessage, byBytes := map[string]string{}, map[string]string{}
		for _, b := range candidates() {
			m, e := Parse(dir, b)
			if e != api.OK {
				continue
			}
			w, e := Write(dir, m)
			if e != api.OK {
				t.Fatalf("Write(%d, %v) = %d", dir, m, e)
			}
			told := fmt.Sprint(m)
			if was, ok := byMessage[told]; ok && was != string(b) {
				t.Fatalf("%s is told of %v and of %v", told, []byte(was), b)
			}
			if was, ok := byBytes[string(w)]; ok && was != told {
				t.Fatalf("%v is written of %s and of %s", w, was, told)
			}
			byMessage[told], byBytes[string(w)] = string(b), told
		}
		if len(byMessage) < 1000 || len(byMessage) != len(byBytes) {
			t.Errorf("%d: %d messages, %d lists of bytes", dir, len(byMessage), len(byBytes))
		}
	}
}

// P14.2, P14.3: messages of many mixed fields, against the promise told of the layers' own calls; no two of them have the same bytes.
func TestMixedMessages(t *testing.T) {
	t.Parallel()
	l := rows()
	for dir := range 2 {
		written := map[string]api.Msg{}
		chances := noise(16 * 100000)
		for i := range 100000 {
			m := mixed(l[i%len(l)], chances[16*i:16*i+16])
			expectForm(t, dir, m)
			b, e := Write(dir, m)
			if e != api.OK {
				continue
			}
			if was, ok := written[string(b)]; ok && !code.Same(was, m) {
				t.Fatalf("Write(%d, ..) of %v and of %v = %v", dir, was, m, b)
			}
			written[string(b)] = m
		}
		if len(written) < 1000 {
			t.Errorf("%d: %d messages were written", dir, len(written))
		}
	}
}

// mixed is a row's message with up to three fields changed, most of them those that it may have.
func mixed(s sample, x []byte) api.Msg {
	m := s.m
	some := []uint16{0, 1, 2, 3, 8, 14, 256, 65280, 65535}
	may := strings.Fields(s.has)
	for j := range int(x[0]) % 4 {
		names := may
		if len(names) == 0 || x[1+j]%8 == 0 {
			names = fields()
		}
		switch v := reflect.ValueOf(&m).Elem().FieldByName(names[int(x[4+j])%len(names)]); v.Kind() {
		case reflect.Slice:
			v.Set(reflect.MakeSlice(v.Type(), int(x[7+j])%4, 4))
		case reflect.Uint8:
			v.SetUint(uint64(x[10+j]))
		default:
			v.SetUint(uint64(some[int(x[7+j])%len(some)] + uint16(x[10+j]%32)))
		}
	}
	return m
}

// R6: what a call answers doesn't hang on calls ahead of it.
func TestAgain(t *testing.T) {
	for range 10 {
		for _, s := range samples() {
			expect(t, s.dir, s.b, s.m, api.OK)
			expectModel(t, 1-s.dir, s.b)
			expectModel(t, s.dir, append(slices.Clone(s.b), 0))
			expectModel(t, s.dir, s.b[:len(s.b)-1])
			expectForm(t, 1-s.dir, s.m)
		}
	}
}

// longer is a copy of a list, with more behind its end, in its room.
func longer[T any](l []T, more ...T) []T { return append(slices.Clone(l), more...)[:len(l)] }

// roomy is the same message, with lists of its own, and something behind the end of each.
func roomy(m api.Msg) api.Msg {
	m.Words, m.Bits, m.Data = longer(m.Words, 91, 92), longer(m.Bits, true, false), longer(m.Data, 93, 94, 95)
	m.Recs, m.Objects = longer(m.Recs, api.Rec{File: 96, Words: []uint16{97}}), longer(m.Objects, api.Object{ID: 98, Value: []byte{99}})
	for i, p := range m.Recs {
		m.Recs[i].Words = longer(p.Words, 101, 102)
	}
	for i, o := range m.Objects {
		m.Objects[i].Value = longer(o.Value, 103, 104)
	}
	return m
}

// whole is a copy of a message with all that its lists have behind their ends, too.
func whole(m api.Msg) api.Msg {
	m.Words, m.Bits, m.Data = slices.Clone(m.Words[:cap(m.Words)]), slices.Clone(m.Bits[:cap(m.Bits)]), slices.Clone(m.Data[:cap(m.Data)])
	m.Recs, m.Objects = slices.Clone(m.Recs[:cap(m.Recs)]), slices.Clone(m.Objects[:cap(m.Objects)])
	for i, p := range m.Recs {
		m.Recs[i].Words = slices.Clone(p.Words[:cap(p.Words)])
	}
	for i, o := range m.Objects {
		m.Objects[i].Value = slices.Clone(o.Value[:cap(o.Value)])
	}
	return m
}

// turn changes all of a list, behind its end too.
func turn[T any](l []T, other func(T) T) {
	l = l[:cap(l)]
	for i := range l {
		l[i] = other(l[i])
	}
}

// The other values of what a list has.
func otherByte(x byte) byte     { return ^x }
func otherWord(x uint16) uint16 { return ^x }
func otherBit(x bool) bool      { return !x }
func otherRec(x api.Rec) api.Rec {
	turn(x.Words, otherWord)
	return api.Rec{File: ^x.File, Record: ^x.Record}
}
func otherObject(x api.Object) api.Object {
	turn(x.Value, otherByte)
	return api.Object{ID: ^x.ID}
}

// spoil changes all that a message's lists have, behind their ends too.
func spoil(m api.Msg) {
	turn(m.Words, otherWord)
	turn(m.Bits, otherBit)
	turn(m.Data, otherByte)
	turn(m.Recs, otherRec)
	turn(m.Objects, otherObject)
}

// R5: Parse doesn't change the bytes, nor what is behind their end, and its answer doesn't hang on them, nor on another one.
func TestParseMemory(t *testing.T) {
	for _, s := range samples() {
		room := append(slices.Clone(s.b), 91, 92, 93)
		was := slices.Clone(room)
		m, _ := Parse(s.dir, room[:len(s.b)])
		if !bytes.Equal(room, was) {
			t.Fatalf("Parse(%d, %v) changes what was handed in to %v", s.dir, was, room)
		}
		other, _ := Parse(s.dir, room[:len(s.b)])
		turn(room, otherByte)
		if !code.Same(m, s.m) {
			t.Fatalf("Parse(%d, %v) hangs on the bytes that were handed in", s.dir, s.b)
		}
		now := slices.Clone(room)
		spoil(m)
		if !bytes.Equal(room, now) {
			t.Fatalf("Parse(%d, %v) tells lists that share memory with what was handed in", s.dir, s.b)
		}
		if again, e := Parse(s.dir, s.b); e != api.OK || !code.Same(other, s.m) || !code.Same(again, s.m) {
			t.Fatalf("answers of Parse(%d, %v) share memory", s.dir, s.b)
		}
	}
}

// R5: no two lists of one answer share memory, behind their ends too.
func TestListsMemory(t *testing.T) {
	for _, s := range samples() {
		m, _ := Parse(s.dir, s.b)
		for i, p := range s.m.Recs {
			turn(m.Recs[i].Words, otherWord)
			_ = append(m.Recs[i].Words, 1, 2, 3)
			m.Recs[i].Words = p.Words
		}
		for i, o := range s.m.Objects {
			turn(m.Objects[i].Value, otherByte)
			_ = append(m.Objects[i].Value, 1, 2, 3)
			m.Objects[i].Value = o.Value
		}
		if !code.Same(m, s.m) {
			t.Fatalf("lists of Parse(%d, %v) share memory", s.dir, s.b)
		}
	}
}

// R5: Write doesn't change the message, nor what is behind its lists' ends, and its answer doesn't hang on it, nor on another one.
func TestWriteMemory(t *testing.T) {
	for _, s := range samples() {
		m := roomy(s.m)
		was := whole(m)
		b, _ := Write(s.dir, m)
		if !reflect.DeepEqual(whole(m), was) {
			t.Fatalf("Write(%d, %v) changes what was handed in", s.dir, s.m)
		}
		other, _ := Write(s.dir, m)
		spoil(m)
		if !bytes.Equal(b, s.b) {
			t.Fatalf("Write(%d, %v) hangs on what was handed in", s.dir, s.m)
		}
		was = whole(m)
		turn(b, otherByte)
		if !reflect.DeepEqual(whole(m), was) {
			t.Fatalf("Write(%d, %v) tells bytes that share memory with what was handed in", s.dir, s.m)
		}
		if again, e := Write(s.dir, s.m); e != api.OK || !bytes.Equal(other, s.b) || !bytes.Equal(again, s.b) {
			t.Fatalf("answers of Write(%d, %v) share memory", s.dir, s.m)
		}
	}
}

// R5: with an error too, nothing that was handed in is changed.
func TestErrorsChangeNothing(t *testing.T) {
	for _, rest := range behind() {
		for dir := -1; dir < 3; dir++ {
			for c := range 256 {
				b := append([]byte{byte(c)}, rest...)
				was := slices.Clone(b)
				Parse(dir, b)
				if !bytes.Equal(b, was) {
					t.Fatalf("Parse(%d, %v) changes what was handed in to %v", dir, was, b)
				}
			}
		}
	}
	for _, s := range samples() {
		for dir := -1; dir < 3; dir++ {
			for _, wrong := range []func(m *api.Msg){
				func(m *api.Msg) { m.Code ^= 128 },
				func(m *api.Msg) { m.Fail ^= 130 },
				func(m *api.Msg) { m.Kind ^= 129 },
				func(m *api.Msg) { m.Addr2, m.Sub = m.Addr2+1, m.Sub+1 },
			} {
				m := roomy(s.m)
				wrong(&m)
				was := whole(m)
				expectForm(t, dir, m)
				if !reflect.DeepEqual(whole(m), was) {
					t.Fatalf("Write(%d, %v) changes what was handed in", dir, s.m)
				}
			}
		}
	}
}
