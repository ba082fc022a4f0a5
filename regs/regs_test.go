package regs

import (
	"bytes"
	"fmt"
	"math"
	"reflect"
	"slices"
	"testing"

	"busbar/api"
	"busbar/code"
)

// noise is n bytes that look like no pattern, the same ones each time.
func noise(n int) []byte {
	b := make([]byte, n)
	x := uint32(n)*2654435761 + 1
	for i := range b {
		x = x*1664525 + 1013904223
		b[i] = byte(x >> 24)
	}
	return b
}

// words is n numbers that look like no pattern, the same ones each time.
func words(n int) []uint16 {
	l := make([]uint16, n)
	x := uint32(n)*2654435761 + 7
	for i := range l {
		x = x*1664525 + 1013904223
		l[i] = uint16(x >> 16)
	}
	return l
}

// big is numbers in bytes, the higher one first.
func big(l ...int) []byte {
	var b []byte
	for _, x := range l {
		b = append(b, byte(x/256), byte(x%256))
	}
	return b
}

// bigWords is big of words.
func bigWords(l []uint16) []byte {
	var b []byte
	for _, x := range l {
		b = append(b, big(int(x))...)
	}
	return b
}

// telling is the bytes of an answer of codes 3, 4 and 23.
func telling(l []uint16) []byte { return append([]byte{byte(2 * len(l))}, bigWords(l)...) }

// writing is the bytes of code 16's request for l from addr on.
func writing(addr int, l []uint16) []byte { return slices.Concat(big(addr, len(l)), telling(l)) }

// exchanging is the bytes of code 23's request.
func exchanging(addr, count, addr2 int, l []uint16) []byte {
	return slices.Concat(big(addr, count), writing(addr2, l))
}

// queueing is the bytes of code 24's answer.
func queueing(l []uint16) []byte { return slices.Concat(big(2*len(l)+2, len(l)), bigWords(l)) }

// codes that have a form.
func codes() []uint8 { return []uint8{3, 4, 6, 16, 22, 23, 24} }

// beside is directions that are none.
func beside() []int {
	return []int{-1, 2, 3, -2, 255, 256, 257, 65536, 65537, 1 << 32, 1<<32 + 1, math.MinInt, math.MinInt + 1, math.MaxInt}
}

// The model is the chapter's table told by lengths and places of bytes, not by fields that are read.
func model(dir int, c uint8, b []byte) (api.Msg, api.Errno) {
	if dir != 0 && dir != 1 {
		return api.Msg{}, api.ErrArg
	}
	if !slices.Contains(codes(), c) {
		return api.Msg{}, api.ErrCode
	}
	m := api.Msg{Code: c}
	length, e := modelRequest(&m, b)
	if dir == 1 {
		m = api.Msg{Code: c}
		length, e = modelResponse(&m, b)
	}
	if e == api.OK && len(b) > length {
		e = api.ErrLong
	}
	if e != api.OK {
		return api.Msg{}, e
	}
	return m, api.OK
}

// at is the number that two bytes are.
func at(b []byte, i int) int { return int(b[i])*256 + int(b[i+1]) }

// modelRequest is how long a request is.
func modelRequest(m *api.Msg, b []byte) (int, api.Errno) {
	switch m.Code {
	case 3, 4:
		return 4, modelPlaces(b, 0, 125, &m.Addr, &m.Count)
	case 6:
		return 4, modelNumbers(b, &m.Addr, &m.Value)
	case 16:
		if e := modelPlaces(b, 0, 123, &m.Addr, &m.Count); e != api.OK {
			return 0, e
		}
		return modelWords(m, b, 4, int(m.Count))
	case 22:
		return 6, modelNumbers(b, &m.Addr, &m.And, &m.Or)
	case 23:
		if e := modelPlaces(b, 0, 125, &m.Addr, &m.Count); e != api.OK {
			return 0, e
		}
		var k uint16
		if e := modelPlaces(b, 4, 121, &m.Addr2, &k); e != api.OK {
			return 0, e
		}
		return modelWords(m, b, 8, int(k))
	}
	return 2, modelNumbers(b, &m.Addr)
}

// modelResponse is how long a response is.
func modelResponse(m *api.Msg, b []byte) (int, api.Errno) {
	switch m.Code {
	case 6, 22:
		return modelRequest(m, b)
	case 16:
		return 4, modelPlaces(b, 0, 123, &m.Addr, &m.Count)
	case 24:
		return modelQueue(m, b)
	}
	switch {
	case len(b) == 0:
		return 0, api.ErrShort
	case b[0] == 0 || b[0] > 250 || b[0]&1 == 1:
		return 0, api.ErrCount
	}
	return modelWords(m, b, 0, int(b[0])/2)
}

func modelNumbers(b []byte, l ...*uint16) api.Errno {
	if len(b) < 2*len(l) {
		return api.ErrShort
	}
	for i, x := range l {
		*x = uint16(at(b, 2*i))
	}
	return api.OK
}

func modelPlaces(b []byte, from, most int, addr, count *uint16) api.Errno {
	if len(b) < from+4 {
		return api.ErrShort
	}
	*addr, *count = uint16(at(b, from)), uint16(at(b, from+2))
	switch {
	case at(b, from+2) == 0 || at(b, from+2) > most:
		return api.ErrCount
	case at(b, from)+at(b, from+2) > 65536:
		return api.ErrAddr
	}
	return api.OK
}

func modelWords(m *api.Msg, b []byte, from, count int) (int, api.Errno) {
	switch {
	case len(b) < from+1:
		return 0, api.ErrShort
	case int(b[from]) != count+count:
		return 0, api.ErrCount
	case len(b) < from+1+2*count:
		return 0, api.ErrShort
	}
	for i := range count {
		m.Words = append(m.Words, uint16(at(b, from+1+2*i)))
	}
	return from + 1 + 2*count, api.OK
}

func modelQueue(m *api.Msg, b []byte) (int, api.Errno) {
	switch {
	case len(b) < 2:
		return 0, api.ErrShort
	case b[0] != 0 || b[1] < 2 || b[1] > 64 || b[1]&1 == 1:
		return 0, api.ErrCount
	case len(b) < 4:
		return 0, api.ErrShort
	case at(b, 2) != int(b[1])/2-1:
		return 0, api.ErrCount
	case len(b) < int(b[1])+2:
		return 0, api.ErrShort
	}
	for i := 4; i < int(b[1])+2; i += 2 {
		m.Words = append(m.Words, uint16(at(b, i)))
	}
	return int(b[1]) + 2, api.OK
}

// expect asks Parse, and, of what is told, Write: of an error no message is told, of a message the same bytes are written.
func expect(t *testing.T, dir int, c uint8, b []byte, want api.Msg, e api.Errno) {
	t.Helper()
	got, gotE := Parse(dir, c, b)
	if gotE != e || !code.Same(got, want) {
		t.Fatalf("Parse(%d, %d, %v) = %v, %d, want %v, %d", dir, c, b, got, gotE, want, e)
	}
	if e != api.OK {
		return
	}
	if back, backE := Write(dir, got); backE != api.OK || !bytes.Equal(back, b) {
		t.Fatalf("Write(%d, %v) = %v, %d, want %v", dir, got, back, backE, b)
	}
}

// expectModel is expect of what model tells.
func expectModel(t *testing.T, dir int, c uint8, b []byte) {
	t.Helper()
	want, e := model(dir, c, b)
	expect(t, dir, c, b, want, e)
}

// expectError is expect of an error, and no message.
func expectError(t *testing.T, dir int, c uint8, b []byte, e api.Errno) {
	t.Helper()
	expect(t, dir, c, b, api.Msg{}, e)
}

// expectNone asks that Write tells ErrArg, and no bytes.
func expectNone(t *testing.T, what string, dir int, m api.Msg) {
	t.Helper()
	if b, e := Write(dir, m); e != api.ErrArg || len(b) != 0 {
		t.Errorf("%s: Write(%d, %v) = %v, %d, want none and ErrArg", what, dir, m, b, e)
	}
}

// expectWrite asks for those bytes of a message that may be, and none of another one.
func expectWrite(t *testing.T, dir int, m api.Msg, may bool, b []byte) {
	t.Helper()
	if !may {
		expectNone(t, "may not be", dir, m)
	} else if got, e := Write(dir, m); e != api.OK || !bytes.Equal(got, b) {
		t.Errorf("Write(%d, %v) = %v, %d, want %v", dir, m, got, e, b)
	}
}

// sample is bytes of a row of the table, and the message that they are.
type sample struct {
	dir int
	b   []byte
	m   api.Msg
}

// samples is messages of every row of the table, of every code and direction, at the edges of their fields.
func samples() []sample {
	return slices.Concat(readSamples(), writeSamples(), bothSamples(), queueSamples())
}

func readSamples() []sample {
	var l []sample
	for _, c := range []uint8{3, 4, 23} {
		for _, n := range []int{1, 2, 3, 63, 64, 124, 125} {
			l = append(l, sample{1, telling(words(n)), api.Msg{Code: c, Words: words(n)}})
		}
		l = append(l, sample{1, []byte{2, 0, 0}, api.Msg{Code: c, Words: []uint16{0}}})
		for _, x := range [][2]int{{107, 3}, {0, 1}, {0, 125}, {65535, 1}, {65411, 125}, {256, 100}, {65279, 124}} {
			if c != 23 {
				l = append(l, sample{0, big(x[0], x[1]), api.Msg{Code: c, Addr: uint16(x[0]), Count: uint16(x[1])}})
			}
		}
	}
	return l
}

func writeSamples() []sample {
	var l []sample
	for dir := range 2 {
		for _, x := range [][3]uint16{{1, 3, 9}, {0, 0, 0}, {65535, 65535, 65535}, {4, 242, 37}, {256, 1, 0}, {0, 255, 256}, {0, 0, 1}, {0, 1, 0}, {1, 0, 0}} {
			l = append(l, sample{dir, bigWords(x[:2]), api.Msg{Code: 6, Addr: x[0], Value: x[1]}})
			l = append(l, sample{dir, bigWords(x[:]), api.Msg{Code: 22, Addr: x[0], And: x[1], Or: x[2]}})
		}
	}
	for _, x := range [][2]int{{1, 2}, {0, 1}, {0, 123}, {65535, 1}, {65413, 123}, {256, 64}, {300, 122}} {
		m := api.Msg{Code: 16, Addr: uint16(x[0]), Count: uint16(x[1])}
		l = append(l, sample{1, big(x[0], x[1]), m})
		for _, list := range [][]uint16{words(x[1]), make([]uint16, x[1]), slices.Repeat([]uint16{65535}, x[1])} {
			m.Words = list
			l = append(l, sample{0, writing(x[0], list), m})
		}
	}
	return l
}

func bothSamples() []sample {
	var l []sample
	for _, x := range [][4]int{{3, 6, 14, 3}, {0, 1, 0, 1}, {0, 125, 0, 121}, {65535, 1, 65535, 1}, {65411, 125, 65415, 121}, {0, 125, 65535, 1}, {65535, 1, 0, 121}, {256, 100, 512, 64}} {
		for _, list := range [][]uint16{words(x[3]), make([]uint16, x[3])} {
			m := api.Msg{Code: 23, Addr: uint16(x[0]), Count: uint16(x[1]), Addr2: uint16(x[2]), Words: list}
			l = append(l, sample{0, exchanging(x[0], x[1], x[2], list), m})
		}
	}
	return l
}

func queueSamples() []sample {
	var l []sample
	for _, addr := range []int{0, 1, 2, 255, 256, 1246, 32767, 32768, 65280, 65535} {
		l = append(l, sample{0, big(addr), api.Msg{Code: 24, Addr: uint16(addr)}})
	}
	for _, k := range []int{0, 1, 2, 3, 15, 16, 30, 31} {
		for _, list := range [][]uint16{words(k), make([]uint16, k)} {
			l = append(l, sample{1, queueing(list), api.Msg{Code: 24, Words: list}})
		}
	}
	return l
}

// The chapter's examples, told field by field, and the one of the whole.
func TestExamples(t *testing.T) {
	expect(t, api.Request, 3, []byte{0, 107, 0, 3}, api.Msg{Code: 3, Addr: 107, Count: 3}, api.OK)
	expect(t, api.Response, 24, []byte{0, 6, 0, 2, 1, 184, 18, 132}, api.Msg{Code: 24, Words: []uint16{440, 4740}}, api.OK)
	expectError(t, api.Request, 3, []byte{0, 107, 0, 126}, api.ErrCount)
}

// P9.1: one message of each row, told byte by byte, with another value in each field.
func TestRows(t *testing.T) {
	for _, c := range []uint8{3, 4} {
		expect(t, 0, c, []byte{1, 2, 0, 4}, api.Msg{Code: c, Addr: 258, Count: 4}, api.OK)
	}
	for _, c := range []uint8{3, 4, 23} {
		expect(t, 1, c, []byte{4, 1, 2, 3, 4}, api.Msg{Code: c, Words: []uint16{258, 772}}, api.OK)
	}
	for dir := range 2 {
		expect(t, dir, 6, []byte{1, 2, 3, 4}, api.Msg{Code: 6, Addr: 258, Value: 772}, api.OK)
		expect(t, dir, 22, []byte{1, 2, 3, 4, 5, 6}, api.Msg{Code: 22, Addr: 258, And: 772, Or: 1286}, api.OK)
	}
	expect(t, 0, 16, []byte{1, 2, 0, 2, 4, 5, 6, 7, 8}, api.Msg{Code: 16, Addr: 258, Count: 2, Words: []uint16{1286, 1800}}, api.OK)
	expect(t, 1, 16, []byte{1, 2, 0, 2}, api.Msg{Code: 16, Addr: 258, Count: 2}, api.OK)
	expect(t, 0, 23, []byte{1, 2, 0, 5, 3, 4, 0, 2, 4, 5, 6, 7, 8}, api.Msg{Code: 23, Addr: 258, Count: 5, Addr2: 772, Words: []uint16{1286, 1800}}, api.OK)
	expect(t, 0, 24, []byte{1, 2}, api.Msg{Code: 24, Addr: 258}, api.OK)
	expect(t, 1, 24, []byte{0, 4, 0, 1, 1, 2}, api.Msg{Code: 24, Words: []uint16{258}}, api.OK)
	expect(t, 1, 24, []byte{0, 2, 0, 0}, api.Msg{Code: 24}, api.OK)
}

// anyBytes is bytes of which each is a form's, or none's.
func anyBytes() [][]byte {
	return [][]byte{nil, {}, {0}, {0, 107}, {0, 107, 0, 3}, {2, 0, 1}, {0, 1, 0, 1, 2, 0, 9}, {0, 3, 0, 6, 0, 14, 0, 1, 2, 0, 255}, {0, 2, 0, 0}, {0, 0, 0, 0}, noise(300)}
}

// P9.1: directions beside both are ErrArg, whatever the code and the bytes are.
func TestParseDirection(t *testing.T) {
	for _, dir := range beside() {
		for c := range 256 {
			for _, b := range anyBytes() {
				expectError(t, dir, uint8(c), b, api.ErrArg)
			}
		}
	}
}

// P9.1: every code that is none of the seven is ErrCode, whatever the bytes are.
func TestParseCode(t *testing.T) {
	for dir := range 2 {
		for c := range 256 {
			for _, b := range anyBytes() {
				if slices.Contains(codes(), uint8(c)) {
					expectModel(t, dir, uint8(c), b)
				} else {
					expectError(t, dir, uint8(c), b, api.ErrCode)
				}
			}
		}
	}
}

// P9.1, P9.2: messages of each row of the table, both ways.
func TestSamples(t *testing.T) {
	for _, s := range samples() {
		expect(t, s.dir, s.m.Code, s.b, s.m, api.OK)
		expectModel(t, s.dir, s.m.Code, s.b)
		expectModel(t, 1-s.dir, s.m.Code, s.b)
	}
}

// P9.1: each form cut off at each of its bytes is ErrShort; with bytes more, whatever they are, ErrLong.
func TestCutAndLong(t *testing.T) {
	for _, s := range samples() {
		for n := range len(s.b) {
			expectError(t, s.dir, s.m.Code, s.b[:n], api.ErrShort)
		}
		for _, more := range [][]byte{{0}, {1}, {255}, {0, 0}, noise(300)} {
			expectError(t, s.dir, s.m.Code, slices.Concat(s.b, more), api.ErrLong)
		}
	}
}

// broken is bytes that break a rule: of so many of them, the rule's field is read.
type broken struct {
	dir int
	c   uint8
	b   []byte
	at  int
	e   api.Errno
}

// brokenRules is bytes of every row that break one rule, or several, of which the first one counts.
func brokenRules() []broken {
	var l []broken
	for _, c := range []uint8{3, 4} {
		l = append(l, broken{0, c, big(107, 0), 4, api.ErrCount}, broken{0, c, big(107, 126), 4, api.ErrCount}, broken{0, c, big(65535, 2), 4, api.ErrAddr}, broken{0, c, big(65535, 126), 4, api.ErrCount})
	}
	for _, c := range []uint8{3, 4, 23} {
		l = append(l, broken{1, c, []byte{0}, 1, api.ErrCount}, broken{1, c, []byte{0, 0, 1}, 1, api.ErrCount}, broken{1, c, []byte{1, 7}, 1, api.ErrCount}, broken{1, c, []byte{3, 1, 2, 3}, 1, api.ErrCount})
		l = append(l, broken{1, c, append([]byte{252}, noise(252)...), 1, api.ErrCount}, broken{1, c, append([]byte{251}, noise(251)...), 1, api.ErrCount})
	}
	return append(l, []broken{
		{1, 16, big(1, 0), 4, api.ErrCount}, {1, 16, big(1, 124), 4, api.ErrCount}, {1, 16, big(65535, 2), 4, api.ErrAddr}, {1, 16, big(65535, 124), 4, api.ErrCount},
		{0, 16, writing(1, nil), 4, api.ErrCount}, {0, 16, writing(1, words(124)), 4, api.ErrCount}, {0, 16, writing(65535, words(2)), 4, api.ErrAddr}, {0, 16, writing(65535, words(124)), 4, api.ErrCount},
		{0, 16, append(big(65535, 2), 5, 0, 1, 0, 2), 4, api.ErrAddr},
		{0, 16, append(big(1, 2), 3, 0, 1, 0), 5, api.ErrCount}, {0, 16, append(big(1, 2), 2, 0, 1), 5, api.ErrCount}, {0, 16, append(big(1, 2), 5, 0, 1, 0, 2, 0), 5, api.ErrCount}, {0, 16, append(big(1, 2), 0), 5, api.ErrCount},
		{0, 23, exchanging(3, 0, 14, words(3)), 4, api.ErrCount}, {0, 23, exchanging(3, 126, 14, words(3)), 4, api.ErrCount}, {0, 23, exchanging(65535, 2, 14, words(3)), 4, api.ErrAddr}, {0, 23, exchanging(65535, 126, 65535, words(122)), 4, api.ErrCount},
		{0, 23, exchanging(65535, 2, 14, nil), 4, api.ErrAddr}, {0, 23, exchanging(65535, 2, 65535, words(122)), 4, api.ErrAddr},
		{0, 23, exchanging(3, 6, 14, nil), 8, api.ErrCount}, {0, 23, exchanging(3, 6, 14, words(122)), 8, api.ErrCount}, {0, 23, exchanging(3, 6, 65535, words(2)), 8, api.ErrAddr}, {0, 23, exchanging(3, 6, 65535, words(122)), 8, api.ErrCount},
		{0, 23, append(big(3, 6, 65535, 2), 3, 0, 1, 0), 8, api.ErrAddr},
		{0, 23, append(big(3, 6, 14, 2), 3, 0, 1, 0), 9, api.ErrCount}, {0, 23, append(big(3, 6, 14, 2), 12, 0, 1, 0, 2), 9, api.ErrCount}, {0, 23, append(big(3, 6, 14, 2), 0), 9, api.ErrCount},
		{1, 24, big(0), 2, api.ErrCount}, {1, 24, big(0, 0), 2, api.ErrCount}, {1, 24, big(1, 0), 2, api.ErrCount}, {1, 24, big(3, 0, 7), 2, api.ErrCount}, {1, 24, big(0, 65535), 2, api.ErrCount},
		{1, 24, queueing(words(32)), 2, api.ErrCount}, {1, 24, big(65, 31), 2, api.ErrCount}, {1, 24, big(258, 0), 2, api.ErrCount}, {1, 24, big(65534, 32766), 2, api.ErrCount},
		{1, 24, big(6, 1, 7), 4, api.ErrCount}, {1, 24, big(6, 3, 7, 8, 9), 4, api.ErrCount}, {1, 24, big(2, 1, 7), 4, api.ErrCount}, {1, 24, big(4, 0), 4, api.ErrCount}, {1, 24, big(64, 32), 4, api.ErrCount},
	}...)
}

// P9.1: a rule that is broken counts ahead of what is too short or too long behind it, and behind what is too short ahead of it.
func TestFirstCounts(t *testing.T) {
	for _, x := range brokenRules() {
		for n := range len(x.b) + 1 {
			e := api.ErrShort
			if n >= x.at {
				e = x.e
			}
			expectError(t, x.dir, x.c, x.b[:n], e)
		}
		for _, more := range [][]byte{{0}, {2}, noise(300)} {
			expectError(t, x.dir, x.c, slices.Concat(x.b, more), x.e)
		}
	}
}

// bound is an error of a place and a count, where at most so many may be.
func bound(addr, count, most int) api.Errno {
	switch {
	case count < 1 || count > most:
		return api.ErrCount
	case addr+count > 65536:
		return api.ErrAddr
	}
	return api.OK
}

// unless is a message; none, with an error.
func unless(e api.Errno, m api.Msg) api.Msg {
	if e != api.OK {
		return api.Msg{}
	}
	return m
}

// counts is both sides of each bound of a number of words, and numbers whose lowest bits, or twice of which, are those of others.
func counts() []int {
	return []int{0, 1, 2, 120, 121, 122, 123, 124, 125, 126, 127, 128, 129, 255, 256, 257, 381, 32768, 32769, 32770, 65409, 65535}
}

// expectPlaces asks all forms that have places, of one place and one count.
func expectPlaces(t *testing.T, addr, count int) {
	t.Helper()
	of := func(c uint8, l []uint16) api.Msg {
		return api.Msg{Code: c, Addr: uint16(addr), Count: uint16(count), Words: l}
	}
	read, wrote, beside := bound(addr, count, 125), bound(addr, count, 123), bound(addr, count, 121)
	expect(t, 0, 3, big(addr, count), unless(read, of(3, nil)), read)
	expect(t, 0, 4, big(addr, count), unless(read, of(4, nil)), read)
	expect(t, 1, 16, big(addr, count), unless(wrote, of(16, nil)), wrote)
	l := words(count)
	expect(t, 0, 16, writing(addr, l), unless(wrote, of(16, l)), wrote)
	m := of(23, []uint16{7})
	m.Addr2 = 14
	expect(t, 0, 23, exchanging(addr, count, 14, []uint16{7}), unless(read, m), read)
	m = api.Msg{Code: 23, Addr: 3, Count: 6, Addr2: uint16(addr), Words: l}
	expect(t, 0, 23, exchanging(3, 6, addr, l), unless(beside, m), beside)
}

// P9.1: both sides of each bound of Count and of k, with and without a place beyond the last.
func TestCountBounds(t *testing.T) {
	for _, count := range counts() {
		for _, addr := range []int{0, 1, 107, 32768, 65534, 65535, 65535 - count, 65536 - count, 65537 - count} {
			expectPlaces(t, addr&65535, count)
		}
	}
}

// P9.1: of code 23's request the first places count ahead of the second ones.
func TestTwoPlaces(t *testing.T) {
	for _, count := range []int{0, 1, 2, 121, 122, 125, 126} {
		for _, k := range []int{0, 1, 2, 121, 122, 125, 126} {
			for _, addr := range []int{0, 65535, 65536 - count, 65537 - count} {
				for _, addr2 := range []int{0, 65535, 65536 - k, 65537 - k} {
					addr, addr2 := addr&65535, addr2&65535
					e := bound(addr, count, 125)
					if e == api.OK {
						e = bound(addr2, k, 121)
					}
					m := api.Msg{Code: 23, Addr: uint16(addr), Count: uint16(count), Addr2: uint16(addr2), Words: words(k)}
					expect(t, 0, 23, exchanging(addr, count, addr2, words(k)), unless(e, m), e)
				}
			}
		}
	}
}

// P9.1: every Count at some places, and every place at some Counts, of all forms that have both.
func TestEveryPlace(t *testing.T) {
	ask := func(addr, count int) {
		expectModel(t, 0, 3, big(addr, count))
		expectModel(t, 0, 4, big(addr, count))
		expectModel(t, 1, 16, big(addr, count))
		expectModel(t, 0, 16, append(big(addr, count), 2, 0, 7))
		expectModel(t, 0, 23, append(big(addr, count, 14, 1), 2, 0, 7))
		expectModel(t, 0, 23, append(big(3, 6, addr, count), 2, 0, 7))
	}
	for x := range 65536 {
		ask(0, x)
		ask(65411, x)
		ask(x, 1)
		ask(x, 121)
		ask(x, 125)
	}
}

// P9.1: every number in each field that has no rule.
func TestEveryNumber(t *testing.T) {
	for x := range 65536 {
		n := uint16(x)
		for dir := range 2 {
			expect(t, dir, 6, big(x, 9), api.Msg{Code: 6, Addr: n, Value: 9}, api.OK)
			expect(t, dir, 6, big(9, x), api.Msg{Code: 6, Addr: 9, Value: n}, api.OK)
			expect(t, dir, 22, big(x, 8, 9), api.Msg{Code: 22, Addr: n, And: 8, Or: 9}, api.OK)
			expect(t, dir, 22, big(8, x, 9), api.Msg{Code: 22, Addr: 8, And: n, Or: 9}, api.OK)
			expect(t, dir, 22, big(8, 9, x), api.Msg{Code: 22, Addr: 8, And: 9, Or: n}, api.OK)
		}
		expect(t, 0, 24, big(x), api.Msg{Code: 24, Addr: n}, api.OK)
		expect(t, 1, 23, telling([]uint16{9, n}), api.Msg{Code: 23, Words: []uint16{9, n}}, api.OK)
	}
}

// P9.1: every n of an answer of codes 3, 4 and 23, with a byte too few, just enough, and one too many.
func TestEveryNumberOfBytes(t *testing.T) {
	for _, c := range []uint8{3, 4, 23} {
		for n := range 256 {
			b := append([]byte{byte(n)}, bigWords(words((n + 1) / 2))[:n]...)
			if n == 0 || n > 250 || n%2 != 0 {
				expectError(t, 1, c, b, api.ErrCount)
				expectError(t, 1, c, b[:1], api.ErrCount)
				expectError(t, 1, c, append(b, 0), api.ErrCount)
				continue
			}
			expect(t, 1, c, b, api.Msg{Code: c, Words: words(n / 2)}, api.OK)
			expectError(t, 1, c, b[:n], api.ErrShort)
			expectError(t, 1, c, append(b, 0), api.ErrLong)
		}
	}
}

// P9.1: every n of the requests of codes 16 and 23 that isn't 2 times Count, or 2 times k, is ErrCount, with as many bytes as n, or as many as there should be.
func TestEveryNumberOfBytesToWrite(t *testing.T) {
	for _, count := range []int{1, 2, 3, 60, 61, 62, 64, 120, 121} {
		for n := range 256 {
			for _, size := range []int{n, 2 * count} {
				behind := append([]byte{byte(n)}, make([]byte, size)...)
				some, both := slices.Concat(big(1, count), behind), slices.Concat(big(3, 6, 14, count), behind)
				if n != 2*count {
					expectError(t, 0, 16, some, api.ErrCount)
					expectError(t, 0, 23, both, api.ErrCount)
					continue
				}
				l := make([]uint16, count)
				expect(t, 0, 16, some, api.Msg{Code: 16, Addr: 1, Count: uint16(count), Words: l}, api.OK)
				expect(t, 0, 23, both, api.Msg{Code: 23, Addr: 3, Count: 6, Addr2: 14, Words: l}, api.OK)
			}
		}
	}
	// Of code 23 it is k that n has to fit, not Count.
	expectError(t, 0, 23, slices.Concat(big(3, 6, 14, 2), []byte{12}, make([]byte, 12)), api.ErrCount)
}

// P9.1: every n of code 24's answer, with the k that fits, with others, and with k of which twice is the same in 16 bits.
func TestEveryQueue(t *testing.T) {
	for n := range 65536 {
		k := (n - 2) / 2 & 65535
		may := n >= 2 && n <= 64 && n%2 == 0
		for _, other := range []int{k, k - 1, k + 1, k + 256, k ^ 32768, 65535, n & 255} {
			b := slices.Concat(big(n, other&65535), make([]byte, 64)[:min(64, 2*(other&65535))])
			if !may || other != k {
				expectError(t, 1, 24, b, api.ErrCount)
			} else {
				expect(t, 1, 24, b, api.Msg{Code: 24, Words: make([]uint16, k)}, api.OK)
			}
		}
		if !may {
			expectError(t, 1, 24, big(n), api.ErrCount)
		}
	}
	for k := 32768; k < 32800; k++ {
		expectError(t, 1, 24, slices.Concat(big(2*(k-32768)+2, k), make([]byte, 2*k)), api.ErrCount)
	}
}

// P9.1: bytes of all lengths that look like no pattern, and samples with a byte changed, against the table told in another way.
func TestAgainstModel(t *testing.T) {
	for dir := range 2 {
		for _, c := range codes() {
			expectModel(t, dir, c, nil)
			expectModel(t, dir, c, []byte{})
			for n := range 600 {
				expectModel(t, dir, c, noise(n))
				expectModel(t, dir, c, make([]byte, n))
			}
		}
	}
	for _, s := range samples() {
		for i := range min(len(s.b), 12) {
			b := slices.Clone(s.b)
			for x := range 256 {
				b[i] = byte(x)
				expectModel(t, 0, s.m.Code, b)
				expectModel(t, 1, s.m.Code, b)
			}
		}
	}
}

// setField gives a field of a message a value that isn't zero, the smallest or the greatest of its kind.
func setField(v reflect.Value, greatest bool) {
	switch v.Kind() {
	case reflect.Uint8, reflect.Uint16:
		v.SetUint(1)
		if greatest {
			v.SetUint(1<<v.Type().Bits() - 1)
		}
	case reflect.Slice:
		n := 1
		if greatest {
			n = 70000
		}
		v.Set(reflect.MakeSlice(v.Type(), n, n))
	default:
		panic("the tests know no field of kind " + v.Kind().String())
	}
}

// named is the fields that each row's form has, by direction and code.
func named(dir int, c uint8) []string {
	switch {
	case c == 6:
		return []string{"Code", "Addr", "Value"}
	case c == 22:
		return []string{"Code", "Addr", "And", "Or"}
	case c == 24 && dir == 0:
		return []string{"Code", "Addr"}
	case c == 16 && dir == 1, c <= 4 && dir == 0:
		return []string{"Code", "Addr", "Count"}
	case c == 16:
		return []string{"Code", "Addr", "Count", "Words"}
	case c == 23 && dir == 0:
		return []string{"Code", "Addr", "Count", "Addr2", "Words"}
	}
	return []string{"Code", "Words"}
}

// P9.2: a field set that the form does not name: each field of api.Msg by itself, of each row.
func TestWriteOtherFields(t *testing.T) {
	for _, s := range samples() {
		for i := range reflect.TypeFor[api.Msg]().NumField() {
			name := reflect.TypeFor[api.Msg]().Field(i).Name
			if slices.Contains(named(s.dir, s.m.Code), name) {
				continue
			}
			for _, greatest := range []bool{false, true} {
				m := s.m
				setField(reflect.ValueOf(&m).Elem().Field(i), greatest)
				expectNone(t, name, s.dir, m)
			}
		}
	}
}

// alone tells whether a message of that code has a form with that field alone set, to the smallest or the greatest of its kind.
func alone(dir, c int, name string, greatest bool) bool {
	switch {
	case c == 6:
		return name == "Addr" || name == "Value"
	case c == 22:
		return name == "Addr" || name == "And" || name == "Or"
	case c == 24 && dir == 0:
		return name == "Addr"
	case dir == 0 && (c == 3 || c == 4), dir == 1 && c == 16:
		return name == "Count" && !greatest
	case dir == 1 && (c == 3 || c == 4 || c == 23 || c == 24):
		return name == "Words" && !greatest
	}
	return false
}

// P9.2, R1: a message of which one field alone is set, beside its code, or not even that.
func TestWriteOneField(t *testing.T) {
	for dir := range 2 {
		for c := range 256 {
			for i := 1; i < reflect.TypeFor[api.Msg]().NumField(); i++ {
				name := reflect.TypeFor[api.Msg]().Field(i).Name
				for _, greatest := range []bool{false, true} {
					m := api.Msg{Code: uint8(c)}
					setField(reflect.ValueOf(&m).Elem().Field(i), greatest)
					if !alone(dir, c, name, greatest) {
						expectNone(t, name, dir, m)
					} else if b, e := Write(dir, m); e != api.OK || len(b) == 0 {
						t.Errorf("Write(%d, %v) = %v, %d, want bytes", dir, m, b, e)
					}
				}
			}
		}
	}
}

// P9.2: every code without a field, every other code with a sample's fields, and a direction beside both.
func TestWriteCodeAndDirection(t *testing.T) {
	for dir := range 2 {
		for c := range 256 {
			switch m := (api.Msg{Code: uint8(c)}); {
			case c == 6:
				expectWrite(t, dir, m, true, big(0, 0))
			case c == 22:
				expectWrite(t, dir, m, true, big(0, 0, 0))
			case c == 24 && dir == 0:
				expectWrite(t, dir, m, true, big(0))
			case c == 24:
				expectWrite(t, dir, m, true, big(2, 0))
			default:
				expectNone(t, "no field", dir, m)
			}
		}
	}
	for _, s := range samples() {
		for _, dir := range beside() {
			expectNone(t, "direction", dir, s.m)
		}
		for c := range 256 {
			if !slices.Contains(codes(), uint8(c)) {
				m := s.m
				m.Code = uint8(c)
				expectNone(t, "code", s.dir, m)
			}
		}
	}
}

// P9.2: a message in the other direction is written just if it has a form there.
func TestWriteOtherDirection(t *testing.T) {
	for _, s := range samples() {
		other := 1 - s.dir
		switch {
		case s.m.Code == 6 || s.m.Code == 22:
			expect(t, other, s.m.Code, s.b, s.m, api.OK)
		case s.m.Code == 24 && s.m.Addr == 0 && len(s.m.Words) == 0:
			// With no field set, it is a request and an answer.
			if b, e := Write(other, s.m); e != api.OK || bytes.Equal(b, s.b) {
				t.Errorf("Write(%d, %v) = %v, %d, want bytes", other, s.m, b, e)
			}
		default:
			expectNone(t, "the other direction", other, s.m)
		}
	}
}

// P9.2: every Count, at the first place and near the last.
func TestWriteBounds(t *testing.T) {
	for x := range 65536 {
		for _, addr := range []int{0, 65412, 65535} {
			m := api.Msg{Addr: uint16(addr), Count: uint16(x)}
			for _, c := range []uint8{3, 4} {
				m.Code = c
				expectWrite(t, 0, m, bound(addr, x, 125) == api.OK, big(addr, x))
			}
			m.Code = 16
			expectWrite(t, 1, m, bound(addr, x, 123) == api.OK, big(addr, x))
			m.Code, m.Addr2, m.Words = 23, 14, []uint16{7}
			expectWrite(t, 0, m, bound(addr, x, 125) == api.OK, exchanging(addr, x, 14, m.Words))
		}
	}
}

// P9.2: every place of code 23's second words.
func TestWriteSecondPlaces(t *testing.T) {
	for x := range 65536 {
		for _, k := range []int{1, 2, 121} {
			m := api.Msg{Code: 23, Addr: 3, Count: 6, Addr2: uint16(x), Words: words(k)}
			expectWrite(t, 0, m, x+k <= 65536, exchanging(3, 6, x, m.Words))
		}
	}
}

// P9.2: Words of all lengths, those whose number has the lowest bits of another one among them.
func TestWriteWords(t *testing.T) {
	lengths := []int{32767, 32768, 32769, 65535, 65536, 65537, 65538, 65536 + 31, 65536 + 121, 65536 + 128, 1 << 20, 1<<20 + 1}
	for n := range 700 {
		lengths = append(lengths, n)
	}
	for _, n := range lengths {
		l := words(n)
		for _, c := range []uint8{3, 4, 23} {
			expectWrite(t, 1, api.Msg{Code: c, Words: l}, n >= 1 && n <= 125, telling(l))
		}
		expectWrite(t, 1, api.Msg{Code: 24, Words: l}, n <= 31, queueing(l))
		expectWrite(t, 0, api.Msg{Code: 23, Addr: 3, Count: 6, Addr2: 14, Words: l}, n >= 1 && n <= 121, exchanging(3, 6, 14, l))
		expectWrite(t, 0, api.Msg{Code: 16, Addr: 1, Count: uint16(n), Words: l}, n >= 1 && n <= 123, writing(1, l))
	}
}

// P9.2: code 16's Words with another Count than they have.
func TestWriteOtherCount(t *testing.T) {
	for n := range 270 {
		for count := range 270 {
			m := api.Msg{Code: 16, Addr: 1, Count: uint16(count), Words: make([]uint16, n)}
			expectWrite(t, 0, m, n == count && n >= 1 && n <= 123, writing(1, m.Words))
		}
	}
	for _, n := range []int{65536, 65537, 65659, 1 << 20, 1<<20 + 10} {
		for _, count := range []uint16{uint16(n), 1, 123} {
			expectNone(t, "long Words", 0, api.Msg{Code: 16, Addr: 1, Count: count, Words: make([]uint16, n)})
		}
	}
}

// P9.2, R4: lists that are nil and lists that are empty are the same.
func TestEmptyLists(t *testing.T) {
	for _, s := range samples() {
		m := s.m
		for i := range reflect.TypeFor[api.Msg]().NumField() {
			f := reflect.ValueOf(&m).Elem().Field(i)
			if f.Kind() != reflect.Slice || f.Len() != 0 {
				continue
			}
			for _, list := range []reflect.Value{reflect.MakeSlice(f.Type(), 0, 3), reflect.Zero(f.Type())} {
				f.Set(list)
				expectWrite(t, s.dir, m, true, s.b)
			}
		}
	}
	for _, none := range [][]uint16{nil, {}} {
		for _, c := range []uint8{3, 4, 23} {
			expectNone(t, "no Words", 1, api.Msg{Code: c, Words: none})
		}
		for count := range 20 {
			expectNone(t, "no Words", 0, api.Msg{Code: 16, Count: uint16(count), Words: none})
			expectNone(t, "no Words", 0, api.Msg{Code: 23, Count: uint16(count), Words: none})
		}
		expectWrite(t, 1, api.Msg{Code: 24, Words: none}, true, []byte{0, 2, 0, 0})
	}
}

// P9.3: unlike bytes are unlike messages, and unlike messages have unlike bytes, of one code and direction.
func TestOneToOne(t *testing.T) {
	for dir := range 2 {
		for _, c := range codes() {
			byMessage, byBytes := map[string]string{}, map[string]string{}
			for _, b := range candidates() {
				m, e := Parse(dir, c, b)
				if e != api.OK {
					continue
				}
				w, e := Write(dir, m)
				if e != api.OK {
					t.Fatalf("Write(%d, %v) = %d", dir, m, e)
				}
				told := fmt.Sprint(m)
				if was, ok := byMessage[told]; ok && was != string(b) {
					t.Fatalf("%s is told of %v and of %v", told, []byte(was), b)
				}
				if was, ok := byBytes[string(w)]; ok && was != told {
					t.Fatalf("%v is written of %s and of %s", w, was, told)
				}
				byMessage[told], byBytes[string(w)] = string(b), told
			}
			if len(byMessage) < 40 || len(byMessage) != len(byBytes) {
				t.Errorf("direction %d, code %d: %d messages, %d lists of bytes", dir, c, len(byMessage), len(byBytes))
			}
		}
	}
}

// candidates is bytes of which some are one another's neighbours: all short lists of some bytes, and the samples with each of their bytes changed.
func candidates() [][]byte {
	all := [][]byte{nil}
	for from := 0; len(all[from]) < 7; from++ {
		for _, x := range []byte{0, 1, 2, 255} {
			all = append(all, append(slices.Clone(all[from]), x))
		}
	}
	for _, s := range samples() {
		all = append(all, s.b)
		for i := range s.b {
			for _, x := range []byte{1, 2, 128} {
				b := slices.Clone(s.b)
				b[i] ^= x
				all = append(all, b)
			}
		}
	}
	return all
}

// spoil changes all that a message's Words have, behind their end too.
func spoil(m api.Msg) {
	l := m.Words[:cap(m.Words)]
	for i := range l {
		l[i] ^= 65535
	}
}

// R5: Parse doesn't change the bytes, nor what is behind their end, and its answer doesn't hang on them.
func TestParseMemory(t *testing.T) {
	for _, s := range samples() {
		room := append(slices.Clone(s.b), 91, 92, 93)
		was := slices.Clone(room)
		m, _ := Parse(s.dir, s.m.Code, room[:len(s.b)])
		if !bytes.Equal(room, was) {
			t.Fatalf("Parse(%d, %d, %v) changes what was handed in to %v", s.dir, s.m.Code, was, room)
		}
		other, _ := Parse(s.dir, s.m.Code, room[:len(s.b)])
		for i := range room {
			room[i] ^= 255
		}
		if !code.Same(m, s.m) {
			t.Fatalf("Parse(%d, %d, %v) hangs on the bytes that were handed in", s.dir, s.m.Code, s.b)
		}
		now := slices.Clone(room)
		spoil(m)
		if !bytes.Equal(room, now) {
			t.Fatalf("Parse(%d, %d, %v) tells words that share memory with what was handed in", s.dir, s.m.Code, s.b)
		}
		if again, e := Parse(s.dir, s.m.Code, s.b); e != api.OK || !code.Same(other, s.m) || !code.Same(again, s.m) {
			t.Fatalf("answers of Parse(%d, %d, %v) share memory", s.dir, s.m.Code, s.b)
		}
	}
}

// R5: Write doesn't change the message, nor what is behind its Words' end, and its answer doesn't hang on it.
func TestWriteMemory(t *testing.T) {
	for _, s := range samples() {
		room := append(slices.Clone(s.m.Words), 91, 92, 93)
		was := slices.Clone(room)
		m := s.m
		m.Words = room[:len(s.m.Words)]
		b, _ := Write(s.dir, m)
		if !slices.Equal(room, was) {
			t.Fatalf("Write(%d, %v) changes what was handed in", s.dir, s.m)
		}
		other, _ := Write(s.dir, m)
		spoil(m)
		if !bytes.Equal(b, s.b) {
			t.Fatalf("Write(%d, %v) hangs on what was handed in", s.dir, s.m)
		}
		now := slices.Clone(room)
		clear(b[:cap(b)])
		if !slices.Equal(room, now) {
			t.Fatalf("Write(%d, %v) tells bytes that share memory with what was handed in", s.dir, s.m)
		}
		if again, e := Write(s.dir, s.m); e != api.OK || !bytes.Equal(other, s.b) || !bytes.Equal(again, s.b) {
			t.Fatalf("answers of Write(%d, %v) share memory", s.dir, s.m)
		}
	}
}

// R5: with an error too, nothing that was handed in is changed.
func TestErrorsChangeNothing(t *testing.T) {
	for _, x := range brokenRules() {
		for dir := -1; dir < 3; dir++ {
			for c := range 256 {
				was := slices.Clone(x.b)
				Parse(dir, uint8(c), x.b)
				if !bytes.Equal(x.b, was) {
					t.Fatalf("Parse(%d, %d, %v) changes what was handed in to %v", dir, c, was, x.b)
				}
			}
		}
	}
	for c := range 256 {
		m := api.Msg{Code: uint8(c), Addr: 1, Count: 9, Words: words(10), Bits: []bool{true}, Data: noise(10)}
		for dir := -1; dir < 3; dir++ {
			expectNone(t, "too much", dir, m)
		}
		if m.Count != 9 || !slices.Equal(m.Words, words(10)) || !m.Bits[0] || !bytes.Equal(m.Data, noise(10)) {
			t.Fatalf("Write changes what was handed in to %v", m)
		}
	}
}
