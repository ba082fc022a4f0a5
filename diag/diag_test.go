package diag

import (
	"bytes"
	"fmt"
	"math"
	"reflect"
	"slices"
	"testing"

	"busbar/api"
	"busbar/code"
)

// noise is n bytes that look like no pattern, the same ones each time.
func noise(n int) []byte {
	b := make([]byte, n)
	x := uint32(n)*2654435761 + 1
	for i := range b {
		x = x*1664525 + 1013904223
		b[i] = byte(x >> 24)
	}
	return b
}

// words is n numbers that look like no pattern, the same ones each time.
func words(n int) []uint16 {
	l := make([]uint16, n)
	x := uint32(n)*2654435761 + 7
	for i := range l {
		x = x*1664525 + 1013904223
		l[i] = uint16(x >> 16)
	}
	return l
}

// big is numbers in bytes, the higher one first.
func big(l ...int) []byte {
	var b []byte
	for _, x := range l {
		b = append(b, byte(x/256), byte(x%256))
	}
	return b
}

// behind is a sub-function, and numbers behind it, in bytes.
func behind(sub int, l []uint16) []byte {
	b := big(sub)
	for _, x := range l {
		b = append(b, big(int(x))...)
	}
	return b
}

// logging is the bytes of code 12's answer.
func logging(status, events, messages int, data []byte) []byte {
	return slices.Concat([]byte{byte(6 + len(data))}, big(status, events, messages), data)
}

// telling is the bytes of code 17's answer.
func telling(data []byte) []byte { return append([]byte{byte(len(data))}, data...) }

// codes that have a form.
func codes() []uint8 { return []uint8{7, 8, 11, 12, 17} }

// subs is the sub-functions of code 8.
func subs() []int { return []int{0, 1, 2, 3, 4, 10, 11, 12, 13, 14, 15, 16, 17, 18, 20} }

// beside is directions that are none.
func beside() []int {
	return []int{-1, 2, 3, -2, 7, 8, 255, 256, 257, 65536, 65537, 1 << 32, 1<<32 + 1, math.MinInt, math.MinInt + 1, math.MaxInt}
}

// mayBe is what a word of code 8 may be, told by the numbers of the chapter; of Sub 4 in a response, and of no sub-function, none may be.
func mayBe(dir, sub, x int) bool {
	switch {
	case !slices.Contains(subs(), sub), dir == 1 && sub == 4:
		return false
	case sub == 1:
		return x == 0 || x == 65280
	case sub == 3:
		return x%256 == 0
	case sub == 2, sub > 10 && sub < 19:
		return dir == 1 || x == 0
	}
	return x == 0
}

// model is the chapter's table told by lengths and places of bytes, not by fields that are read.
func model(dir int, c uint8, b []byte) (api.Msg, api.Errno) {
	if dir != 0 && dir != 1 {
		return api.Msg{}, api.ErrArg
	}
	if !slices.Contains(codes(), c) {
		return api.Msg{}, api.ErrCode
	}
	m := api.Msg{Code: c}
	length, e := 0, api.OK
	switch {
	case c == 8:
		length, e = modelSub(&m, dir, b)
	case dir == 1:
		length, e = modelAnswer(&m, b)
	}
	if e == api.OK && len(b) > length {
		e = api.ErrLong
	}
	if e != api.OK {
		return api.Msg{}, e
	}
	return m, api.OK
}

// at is the number that two bytes are.
func at(b []byte, i int) int { return int(b[i])*256 + int(b[i+1]) }

// modelSub is how long a message of code 8 is.
func modelSub(m *api.Msg, dir int, b []byte) (int, api.Errno) {
	switch {
	case len(b) < 2:
		return 0, api.ErrShort
	case !slices.Contains(subs(), at(b, 0)), dir == 1 && at(b, 0) == 4:
		return 0, api.ErrSub
	case at(b, 0) == 0 && (len(b)&1 == 1 || len(b) < 4 || len(b) > 252):
		return 0, api.ErrCount
	case len(b) < 4:
		return 0, api.ErrShort
	case at(b, 0) != 0 && !mayBe(dir, at(b, 0), at(b, 2)):
		return 0, api.ErrValue
	}
	m.Sub = uint16(at(b, 0))
	length := 4
	if m.Sub == 0 {
		length = len(b)
	}
	for i := 2; i < length; i += 2 {
		m.Words = append(m.Words, uint16(at(b, i)))
	}
	return length, api.OK
}

// modelAnswer is how long an answer is that isn't code 8's.
func modelAnswer(m *api.Msg, b []byte) (int, api.Errno) {
	from := map[uint8]int{7: 0, 11: 0, 12: 1, 17: 1}[m.Code]
	switch {
	case m.Code != 11 && len(b) == 0:
		return 0, api.ErrShort
	case m.Code == 7:
		m.Value = uint16(b[0])
		return 1, api.OK
	case m.Code == 12 && (b[0] < 6 || b[0] > 70), m.Code == 17 && (b[0] == 0 || b[0] > 251):
		return 0, api.ErrCount
	case m.Code != 17 && len(b) < from+2:
		return 0, api.ErrShort
	case m.Code != 17 && at(b, from) != 0 && at(b, from) != 65535:
		return 0, api.ErrValue
	case m.Code == 11 && len(b) < 4, m.Code != 11 && len(b) < 1+int(b[0]):
		return 0, api.ErrShort
	}
	if m.Code == 17 {
		m.Data = slices.Clone(b[1 : 1+int(b[0])])
		return 1 + int(b[0]), api.OK
	}
	m.Status, m.Events = uint16(at(b, from)), uint16(at(b, from+2))
	if m.Code == 11 {
		return 4, api.OK
	}
	m.Messages, m.Data = uint16(at(b, 5)), slices.Clone(b[7:1+int(b[0])])
	return 1 + int(b[0]), api.OK
}

// rowBytes is the bytes of a message, told by what each row asks of its fields; and whether there are any.
func rowBytes(dir int, m api.Msg) ([]byte, bool) {
	only := api.Msg{Code: m.Code}
	var b []byte
	switch may := m.Status == 0 || m.Status == 65535; {
	case m.Code == 8:
		only.Sub, only.Words = m.Sub, m.Words
		b = behind(int(m.Sub), m.Words)
		if m.Sub == 0 && (len(m.Words) < 1 || len(m.Words) > 125) {
			return nil, false
		}
		if m.Sub != 0 && (len(m.Words) != 1 || !mayBe(dir, int(m.Sub), int(m.Words[0]))) {
			return nil, false
		}
	case dir == 0:
	case m.Code == 7 && m.Value < 256:
		only.Value = m.Value
		b = []byte{byte(m.Value)}
	case m.Code == 11 && may:
		only.Status, only.Events = m.Status, m.Events
		b = big(int(m.Status), int(m.Events))
	case m.Code == 12 && may && len(m.Data) <= 64:
		only.Status, only.Events, only.Messages, only.Data = m.Status, m.Events, m.Messages, m.Data
		b = logging(int(m.Status), int(m.Events), int(m.Messages), m.Data)
	case m.Code == 17 && len(m.Data) >= 1 && len(m.Data) <= 251:
		only.Data = m.Data
		b = telling(m.Data)
	default:
		return nil, false
	}
	if dir != 0 && dir != 1 || !slices.Contains(codes(), m.Code) || !code.Same(m, only) {
		return nil, false
	}
	return b, true
}

// expect asks Parse, and, of what is told, Write: of an error no message is told, of a message the same bytes are written.
func expect(t *testing.T, dir int, c uint8, b []byte, want api.Msg, e api.Errno) {
	t.Helper()
	got, gotE := Parse(dir, c, b)
	if gotE != e || !code.Same(got, want) {
		t.Fatalf("Parse(%d, %d, %v) = %v, %d, want %v, %d", dir, c, b, got, gotE, want, e)
	}
	if e != api.OK {
		return
	}
	if back, backE := Write(dir, got); backE != api.OK || !bytes.Equal(back, b) {
		t.Fatalf("Write(%d, %v) = %v, %d, want %v", dir, got, back, backE, b)
	}
}

// expectModel is expect of what model tells.
func expectModel(t *testing.T, dir int, c uint8, b []byte) {
	t.Helper()
	want, e := model(dir, c, b)
	expect(t, dir, c, b, want, e)
}

// expectError is expect of an error, and no message.
func expectError(t *testing.T, dir int, c uint8, b []byte, e api.Errno) {
	t.Helper()
	expect(t, dir, c, b, api.Msg{}, e)
}

// expectNone asks that Write tells ErrArg, and no bytes.
func expectNone(t *testing.T, what string, dir int, m api.Msg) {
	t.Helper()
	if b, e := Write(dir, m); e != api.ErrArg || len(b) != 0 {
		t.Fatalf("%s: Write(%d, %v) = %v, %d, want none and ErrArg", what, dir, m, b, e)
	}
}

// expectWrite asks for those bytes of a message that may be, and none of another one.
func expectWrite(t *testing.T, dir int, m api.Msg, may bool, b []byte) {
	t.Helper()
	if !may {
		expectNone(t, "may not be", dir, m)
	} else if got, e := Write(dir, m); e != api.OK || !bytes.Equal(got, b) {
		t.Fatalf("Write(%d, %v) = %v, %d, want %v", dir, m, got, e, b)
	}
}

// expectRow is expectWrite of what rowBytes tells.
func expectRow(t *testing.T, dir int, m api.Msg) {
	t.Helper()
	b, may := rowBytes(dir, m)
	expectWrite(t, dir, m, may, b)
}

// sample is bytes of a row of the table, and the message that they are.
type sample struct {
	dir int
	b   []byte
	m   api.Msg
}

// samples is messages of every row of the table, of every code and direction, at the edges of their fields.
func samples() []sample {
	return slices.Concat(nothingSamples(), echoSamples(), subSamples(), answerSamples(), dataSamples())
}

func nothingSamples() []sample {
	var l []sample
	for _, c := range []uint8{7, 11, 12, 17} {
		l = append(l, sample{0, nil, api.Msg{Code: c}})
	}
	return l
}

func echoSamples() []sample {
	var l []sample
	for dir := range 2 {
		for _, n := range []int{1, 2, 3, 63, 64, 124, 125} {
			for _, list := range [][]uint16{words(n), make([]uint16, n), slices.Repeat([]uint16{65535}, n)} {
				l = append(l, sample{dir, behind(0, list), api.Msg{Code: 8, Words: list}})
			}
		}
	}
	return l
}

func subSamples() []sample {
	var l []sample
	for dir := range 2 {
		for _, sub := range subs()[1:] {
			for _, x := range []uint16{0, 1, 255, 256, 2560, 4660, 32768, 65280, 65281, 65535} {
				if mayBe(dir, sub, int(x)) {
					l = append(l, sample{dir, big(sub, int(x)), api.Msg{Code: 8, Sub: uint16(sub), Words: []uint16{x}}})
				}
			}
		}
	}
	return l
}

func answerSamples() []sample {
	var l []sample
	for _, x := range []uint8{0, 1, 109, 127, 128, 255} {
		l = append(l, sample{1, []byte{x}, api.Msg{Code: 7, Value: uint16(x)}})
	}
	for _, status := range []uint16{0, 65535} {
		for _, events := range []uint16{0, 1, 255, 256, 264, 32768, 65535} {
			l = append(l, sample{1, big(int(status), int(events)), api.Msg{Code: 11, Status: status, Events: events}})
		}
	}
	return l
}

func dataSamples() []sample {
	var l []sample
	for _, n := range []int{0, 1, 2, 3, 32, 63, 64} {
		for _, x := range [][3]int{{0, 264, 289}, {65535, 0, 0}, {0, 0, 65535}, {65535, 65535, 1}, {0, 0, 0}} {
			for _, data := range [][]byte{noise(n), make([]byte, n)} {
				m := api.Msg{Code: 12, Status: uint16(x[0]), Events: uint16(x[1]), Messages: uint16(x[2]), Data: data}
				l = append(l, sample{1, logging(x[0], x[1], x[2], data), m})
			}
		}
	}
	for _, n := range []int{1, 2, 3, 127, 128, 250, 251} {
		for _, data := range [][]byte{noise(n), make([]byte, n), slices.Repeat([]byte{255}, n)} {
			l = append(l, sample{1, telling(data), api.Msg{Code: 17, Data: data}})
		}
	}
	return l
}

// isEcho tells whether a sample is of a Sub of 0, of which all that is left are words.
func isEcho(s sample) bool { return s.m.Code == 8 && s.m.Sub == 0 }

// The chapter's examples, told field by field.
func TestExamples(t *testing.T) {
	expect(t, api.Request, 8, []byte{0, 0, 165, 55}, api.Msg{Code: 8, Sub: 0, Words: []uint16{42295}}, api.OK)
	expect(t, api.Response, 11, []byte{255, 255, 1, 8}, api.Msg{Code: 11, Status: 65535, Events: 264}, api.OK)
}

// P10.1: one message of each row, told byte by byte, with another value in each field.
func TestRows(t *testing.T) {
	for _, c := range []uint8{7, 11, 12, 17} {
		expect(t, 0, c, nil, api.Msg{Code: c}, api.OK)
		expect(t, 0, c, []byte{}, api.Msg{Code: c}, api.OK)
	}
	expect(t, 1, 7, []byte{109}, api.Msg{Code: 7, Value: 109}, api.OK)
	for dir := range 2 {
		expect(t, dir, 8, []byte{0, 0, 1, 2, 3, 4, 5, 6}, api.Msg{Code: 8, Words: []uint16{258, 772, 1286}}, api.OK)
		expect(t, dir, 8, []byte{0, 1, 255, 0}, api.Msg{Code: 8, Sub: 1, Words: []uint16{65280}}, api.OK)
		expect(t, dir, 8, []byte{0, 3, 10, 0}, api.Msg{Code: 8, Sub: 3, Words: []uint16{2560}}, api.OK)
		expect(t, dir, 8, []byte{0, 10, 0, 0}, api.Msg{Code: 8, Sub: 10, Words: []uint16{0}}, api.OK)
	}
	expect(t, 0, 8, []byte{0, 4, 0, 0}, api.Msg{Code: 8, Sub: 4, Words: []uint16{0}}, api.OK)
	expect(t, 0, 8, []byte{0, 2, 0, 0}, api.Msg{Code: 8, Sub: 2, Words: []uint16{0}}, api.OK)
	expect(t, 1, 8, []byte{0, 14, 1, 2}, api.Msg{Code: 8, Sub: 14, Words: []uint16{258}}, api.OK)
	expect(t, 1, 11, []byte{0, 0, 1, 2}, api.Msg{Code: 11, Events: 258}, api.OK)
	expect(t, 1, 12, []byte{8, 255, 255, 1, 2, 3, 4, 32, 33}, api.Msg{Code: 12, Status: 65535, Events: 258, Messages: 772, Data: []byte{32, 33}}, api.OK)
	expect(t, 1, 12, []byte{6, 0, 0, 1, 2, 3, 4}, api.Msg{Code: 12, Events: 258, Messages: 772}, api.OK)
	expect(t, 1, 17, []byte{3, 9, 255, 7}, api.Msg{Code: 17, Data: []byte{9, 255, 7}}, api.OK)
}

// anyBytes is bytes of which each is a form's, or none's.
func anyBytes() [][]byte {
	return [][]byte{nil, {}, {0}, {109}, {0, 0}, {0, 5}, {0, 0, 165, 55}, {255, 255, 1, 8}, {0, 4, 0, 0}, {6, 0, 0, 1, 2, 3, 4}, {2, 5, 255}, {1}, noise(252), noise(300)}
}

// P10.1: directions beside both are ErrArg, whatever the code and the bytes are.
func TestParseDirection(t *testing.T) {
	for _, dir := range beside() {
		for c := range 256 {
			for _, b := range anyBytes() {
				expectError(t, dir, uint8(c), b, api.ErrArg)
			}
		}
	}
}

// P10.1: every code that is none of the five is ErrCode, whatever the bytes are.
func TestParseCode(t *testing.T) {
	for dir := range 2 {
		for c := range 256 {
			for _, b := range anyBytes() {
				if slices.Contains(codes(), uint8(c)) {
					expectModel(t, dir, uint8(c), b)
				} else {
					expectError(t, dir, uint8(c), b, api.ErrCode)
				}
			}
		}
	}
}

// P10.1, P10.2: messages of each row of the table, both ways.
func TestSamples(t *testing.T) {
	for _, s := range samples() {
		expect(t, s.dir, s.m.Code, s.b, s.m, api.OK)
		expectModel(t, s.dir, s.m.Code, s.b)
		expectModel(t, 1-s.dir, s.m.Code, s.b)
	}
}

// P10.1: each form cut off at each of its bytes is ErrShort; with bytes more, whatever they are, ErrLong.
func TestCutAndLong(t *testing.T) {
	for _, s := range samples() {
		if isEcho(s) {
			continue
		}
		for n := range len(s.b) {
			expectError(t, s.dir, s.m.Code, s.b[:n], api.ErrShort)
		}
		for _, more := range [][]byte{{0}, {1}, {255}, {0, 0}, noise(300)} {
			expectError(t, s.dir, s.m.Code, slices.Concat(s.b, more), api.ErrLong)
		}
	}
}

// P10.1: with a Sub of 0, cut off or with bytes more, it is another message, or ErrCount; ErrShort just where the Sub isn't whole.
func TestCutAndLongEcho(t *testing.T) {
	for _, s := range samples() {
		if !isEcho(s) {
			continue
		}
		expectError(t, s.dir, 8, s.b[:0], api.ErrShort)
		expectError(t, s.dir, 8, s.b[:1], api.ErrShort)
		long := slices.Concat(s.b, noise(300))
		for n := 2; n <= len(long); n++ {
			if n%2 == 1 || n < 4 || n > 252 {
				expectError(t, s.dir, 8, long[:n], api.ErrCount)
				continue
			}
			m := api.Msg{Code: 8}
			for i := 2; i < n; i += 2 {
				m.Words = append(m.Words, uint16(at(long, i)))
			}
			expect(t, s.dir, 8, long[:n], m, api.OK)
		}
	}
}

// P10.1: with a Sub of 0, every number of bytes left, in both directions.
func TestEchoBounds(t *testing.T) {
	for dir := range 2 {
		for left := range 600 {
			for _, b := range [][]byte{make([]byte, left), noise(left), slices.Repeat([]byte{255}, left)} {
				b = append(big(0), b...)
				if left%2 == 1 || left < 2 || left > 250 {
					expectError(t, dir, 8, b, api.ErrCount)
				} else if m, e := Parse(dir, 8, b); e != api.OK || m.Sub != 0 || len(m.Words) != left/2 {
					t.Fatalf("Parse(%d, 8, 0 0 and %d bytes) = %v, %d", dir, left, m, e)
				}
				expectModel(t, dir, 8, b)
			}
		}
		for _, left := range []int{65536, 65538, 65536 + 250, 131072, 1 << 20} {
			expectError(t, dir, 8, make([]byte, 2+left), api.ErrCount)
		}
	}
}

// P10.1: requests of nothing, with nothing and with bytes.
func TestNothing(t *testing.T) {
	for _, c := range []uint8{7, 11, 12, 17} {
		expect(t, 0, c, nil, api.Msg{Code: c}, api.OK)
		for x := range 256 {
			expectError(t, 0, c, []byte{byte(x)}, api.ErrLong)
		}
		for n := 1; n < 300; n++ {
			expectError(t, 0, c, noise(n), api.ErrLong)
		}
	}
}

// P10.1: every Value of code 7's answer, and none, and two.
func TestEveryFlags(t *testing.T) {
	expectError(t, 1, 7, nil, api.ErrShort)
	for x := range 256 {
		expect(t, 1, 7, []byte{byte(x)}, api.Msg{Code: 7, Value: uint16(x)}, api.OK)
		expectError(t, 1, 7, []byte{byte(x), 0}, api.ErrLong)
		expectError(t, 1, 7, []byte{0, byte(x)}, api.ErrLong)
	}
}

// P10.1: every Sub, in both directions: with a word that may be of it, alone, and with too much behind it.
func TestEverySub(t *testing.T) {
	t.Parallel()
	for dir := range 2 {
		for sub := range 65536 {
			b := big(sub)
			if !slices.Contains(subs(), sub) || dir == 1 && sub == 4 {
				for _, more := range [][]byte{nil, {0}, {0, 0}, {0, 1}, {0, 0, 0}} {
					expectError(t, dir, 8, slices.Concat(b, more), api.ErrSub)
				}
				continue
			}
			alone := api.ErrShort
			if sub == 0 {
				alone = api.ErrCount
			}
			expectError(t, dir, 8, b, alone)
			expectError(t, dir, 8, append(b, 0), alone)
			expect(t, dir, 8, append(b, 0, 0), api.Msg{Code: 8, Sub: uint16(sub), Words: []uint16{0}}, api.OK)
		}
	}
}

// P10.1: of each Sub each word, in both directions.
func TestEveryWord(t *testing.T) {
	t.Parallel()
	for dir := range 2 {
		for _, sub := range subs()[1:] {
			b := big(sub, 0)
			for x := range 65536 {
				b[2], b[3] = byte(x>>8), byte(x)
				switch {
				case dir == 1 && sub == 4:
					expectError(t, dir, 8, b, api.ErrSub)
				case mayBe(dir, sub, x):
					expect(t, dir, 8, b, api.Msg{Code: 8, Sub: uint16(sub), Words: []uint16{uint16(x)}}, api.OK)
				default:
					expectError(t, dir, 8, b, api.ErrValue)
				}
			}
		}
	}
}

// P10.1: what each Sub's word may be, told one by one.
func TestWordsTold(t *testing.T) {
	ask := func(dir int, e api.Errno, sub int, l ...int) {
		t.Helper()
		for _, x := range l {
			if _, got := Parse(dir, 8, big(sub, x)); got != e {
				t.Errorf("Parse(%d, 8) of Sub %d and %d = %d, want %d", dir, sub, x, got, e)
			}
		}
	}
	others := []int{1, 2, 255, 256, 257, 4660, 32768, 65279, 65280, 65281, 65534, 65535}
	for dir := range 2 {
		ask(dir, api.OK, 1, 0, 65280)
		ask(dir, api.ErrValue, 1, 1, 255, 256, 32768, 65279, 65281, 65535)
		ask(dir, api.OK, 3, 0, 256, 2560, 32512, 65280)
		ask(dir, api.ErrValue, 3, 1, 10, 128, 255, 257, 2561, 65279, 65281, 65535)
		for _, sub := range []int{10, 20} {
			ask(dir, api.OK, sub, 0)
			ask(dir, api.ErrValue, sub, others...)
		}
	}
	for _, sub := range []int{2, 11, 12, 13, 14, 15, 16, 17, 18} {
		ask(0, api.OK, sub, 0)
		ask(0, api.ErrValue, sub, others...)
		ask(1, api.OK, sub, append([]int{0}, others...)...)
	}
	ask(0, api.OK, 4, 0)
	ask(0, api.ErrValue, 4, others...)
	ask(1, api.ErrSub, 4, append([]int{0}, others...)...)
	for _, sub := range []int{5, 6, 7, 8, 9, 19, 21, 22, 32, 256, 257, 258, 266, 276, 32768, 65535} {
		ask(0, api.ErrSub, sub, append([]int{0}, others...)...)
		ask(1, api.ErrSub, sub, append([]int{0}, others...)...)
	}
}

// P10.1: every Status of codes 11 and 12, and every number of Events and Messages.
func TestEveryNumber(t *testing.T) {
	for x := range 65536 {
		n := uint16(x)
		for _, data := range [][]byte{nil, {7}} {
			if x == 0 || x == 65535 {
				expect(t, 1, 11, big(x, 9), api.Msg{Code: 11, Status: n, Events: 9}, api.OK)
				expect(t, 1, 12, logging(x, 8, 9, data), api.Msg{Code: 12, Status: n, Events: 8, Messages: 9, Data: data}, api.OK)
			} else {
				expectError(t, 1, 11, big(x, 9), api.ErrValue)
				expectError(t, 1, 12, logging(x, 8, 9, data), api.ErrValue)
			}
			expect(t, 1, 11, big(65535, x), api.Msg{Code: 11, Status: 65535, Events: n}, api.OK)
			expect(t, 1, 12, logging(0, x, 9, data), api.Msg{Code: 12, Events: n, Messages: 9, Data: data}, api.OK)
			expect(t, 1, 12, logging(0, 9, x, data), api.Msg{Code: 12, Events: 9, Messages: n, Data: data}, api.OK)
		}
	}
}

// P10.1: every n of the answers of codes 12 and 17, with as many bytes as it asks for, one fewer, and one more.
func TestEveryNumberOfBytes(t *testing.T) {
	for n := range 256 {
		ask := func(c uint8, may bool, b []byte, m api.Msg) {
			t.Helper()
			short, long, whole := api.ErrShort, api.ErrLong, api.OK
			if !may {
				short, long, whole, m = api.ErrCount, api.ErrCount, api.ErrCount, api.Msg{}
			}
			expect(t, 1, c, b, m, whole)
			expectError(t, 1, c, append(slices.Clone(b), 0), long)
			expectError(t, 1, c, b[:max(1, len(b)-1)], short)
			expectError(t, 1, c, b[:1], short)
		}
		if n > 0 {
			ask(17, n <= 251, append([]byte{byte(n)}, noise(n)...), api.Msg{Code: 17, Data: noise(n)})
		}
		if n >= 6 {
			ask(12, n <= 70, logging(0, 1, 2, noise(n-6)), api.Msg{Code: 12, Events: 1, Messages: 2, Data: noise(n - 6)})
			ask(12, n <= 70, logging(65535, 0, 0, make([]byte, n-6)), api.Msg{Code: 12, Status: 65535, Data: make([]byte, n-6)})
		}
	}
	for n := range 6 {
		for size := range 10 {
			expectError(t, 1, 12, append([]byte{byte(n)}, make([]byte, size)...), api.ErrCount)
		}
	}
	for size := range 4 {
		expectError(t, 1, 17, make([]byte, 1+size), api.ErrCount)
	}
}

// broken is bytes that break a rule: of so many of them, the rule's field is read.
type broken struct {
	dir int
	c   uint8
	b   []byte
	at  int
	e   api.Errno
}

// brokenRules is bytes of every row that break one rule, or several, of which the first one counts.
func brokenRules() []broken {
	var l []broken
	for dir := range 2 {
		for _, sub := range []int{5, 9, 19, 21, 256, 260, 65535} {
			l = append(l, broken{dir, 8, big(sub, 0), 2, api.ErrSub}, broken{dir, 8, big(sub, 1), 2, api.ErrSub})
		}
		for _, sub := range []int{1, 3, 10, 20} {
			l = append(l, broken{dir, 8, big(sub, 1), 4, api.ErrValue}, broken{dir, 8, big(sub, 65535), 4, api.ErrValue})
		}
	}
	for _, sub := range []int{2, 4, 11, 12, 13, 14, 15, 16, 17, 18} {
		l = append(l, broken{0, 8, big(sub, 1), 4, api.ErrValue}, broken{0, 8, big(sub, 65280), 4, api.ErrValue})
	}
	l = append(l, broken{1, 8, big(4, 0), 2, api.ErrSub}, broken{1, 8, big(4, 1), 2, api.ErrSub})
	for _, status := range []int{1, 2, 255, 256, 32767, 32768, 65280, 65534} {
		l = append(l, broken{1, 11, big(status, 264), 2, api.ErrValue}, broken{1, 12, logging(status, 264, 289, noise(2)), 3, api.ErrValue})
		// The number of bytes is told ahead of Status.
		l = append(l, broken{1, 12, append([]byte{5}, big(status, 264, 289)...), 1, api.ErrCount}, broken{1, 12, append([]byte{71}, big(status, 264, 289)...), 1, api.ErrCount})
	}
	return append(l, []broken{
		{1, 12, []byte{0}, 1, api.ErrCount}, {1, 12, append([]byte{5}, big(0, 1, 2)...), 1, api.ErrCount}, {1, 12, logging(0, 1, 2, noise(65)), 1, api.ErrCount},
		{1, 12, logging(0, 1, 2, noise(249)), 1, api.ErrCount}, {1, 12, append([]byte{134}, noise(134)...), 1, api.ErrCount},
		{1, 17, []byte{0}, 1, api.ErrCount}, {1, 17, []byte{0, 1}, 1, api.ErrCount}, {1, 17, telling(noise(252)), 1, api.ErrCount}, {1, 17, telling(noise(255)), 1, api.ErrCount},
	}...)
}

// P10.1: a rule that is broken counts ahead of what is too short or too long behind it, and behind what is too short ahead of it.
func TestFirstCounts(t *testing.T) {
	for _, x := range brokenRules() {
		for n := range len(x.b) + 1 {
			e := api.ErrShort
			if n >= x.at {
				e = x.e
			}
			expectError(t, x.dir, x.c, x.b[:n], e)
		}
		for _, more := range [][]byte{{0}, {2}, noise(300)} {
			expectError(t, x.dir, x.c, slices.Concat(x.b, more), x.e)
		}
	}
}

// P10.1: bytes of all lengths that look like no pattern, and samples with a byte changed, against the table told in another way.
func TestAgainstModel(t *testing.T) {
	t.Parallel()
	for dir := range 2 {
		for _, c := range codes() {
			for n := range 600 {
				expectModel(t, dir, c, noise(n))
				expectModel(t, dir, c, make([]byte, n))
				expectModel(t, dir, c, slices.Repeat([]byte{255}, n))
			}
		}
	}
	for _, s := range samples() {
		for i := range min(len(s.b), 9) {
			b := slices.Clone(s.b)
			for x := range 256 {
				b[i] = byte(x)
				expectModel(t, 0, s.m.Code, b)
				expectModel(t, 1, s.m.Code, b)
			}
		}
	}
}

// setField gives a field of a message a value that isn't zero, the smallest or the greatest of its kind.
func setField(v reflect.Value, greatest bool) {
	switch v.Kind() {
	case reflect.Uint8, reflect.Uint16:
		v.SetUint(1)
		if greatest {
			v.SetUint(1<<v.Type().Bits() - 1)
		}
	case reflect.Slice:
		n := 1
		if greatest {
			n = 70000
		}
		v.Set(reflect.MakeSlice(v.Type(), n, n))
	default:
		panic("the tests know no field of kind " + v.Kind().String())
	}
}

// named is the fields that each row's form has, by direction and code.
func named(dir int, c uint8) []string {
	switch {
	case c == 8:
		return []string{"Code", "Sub", "Words"}
	case dir == 0:
		return []string{"Code"}
	case c == 7:
		return []string{"Code", "Value"}
	case c == 11:
		return []string{"Code", "Status", "Events"}
	case c == 12:
		return []string{"Code", "Status", "Events", "Messages", "Data"}
	}
	return []string{"Code", "Data"}
}

// P10.2: a field set that the form does not name: each field of api.Msg by itself, of each row.
func TestWriteOtherFields(t *testing.T) {
	for _, s := range samples() {
		for i := range reflect.TypeFor[api.Msg]().NumField() {
			name := reflect.TypeFor[api.Msg]().Field(i).Name
			if slices.Contains(named(s.dir, s.m.Code), name) {
				continue
			}
			for _, greatest := range []bool{false, true} {
				m := s.m
				setField(reflect.ValueOf(&m).Elem().Field(i), greatest)
				expectNone(t, name, s.dir, m)
			}
		}
	}
}

// alone tells whether a message of that code has a form with that field alone set, to the smallest or the greatest of its kind.
func alone(dir, c int, name string, greatest bool) bool {
	switch {
	case c == 8:
		return name == "Words" && !greatest
	case dir == 0:
		return false
	case c == 7:
		return name == "Value" && !greatest
	case c == 11:
		return name == "Events" || name == "Status" && greatest
	case c == 12:
		return name == "Events" || name == "Messages" || name == "Status" && greatest || name == "Data" && !greatest
	case c == 17:
		return name == "Data" && !greatest
	}
	return false
}

// P10.2, R1: a message of which one field alone is set, beside its code, or not even that.
func TestWriteOneField(t *testing.T) {
	for dir := range 2 {
		for c := range 256 {
			for i := 1; i < reflect.TypeFor[api.Msg]().NumField(); i++ {
				name := reflect.TypeFor[api.Msg]().Field(i).Name
				for _, greatest := range []bool{false, true} {
					m := api.Msg{Code: uint8(c)}
					setField(reflect.ValueOf(&m).Elem().Field(i), greatest)
					if !alone(dir, c, name, greatest) {
						expectNone(t, name, dir, m)
					} else if b, e := Write(dir, m); e != api.OK || len(b) == 0 {
						t.Errorf("Write(%d, %v) = %v, %d, want bytes", dir, m, b, e)
					}
					expectRow(t, dir, m)
				}
			}
		}
	}
}

// P10.2: every code without a field, and with no form; and a direction beside both.
func TestWriteCodeAndDirection(t *testing.T) {
	for c := range 256 {
		m := api.Msg{Code: uint8(c)}
		expectWrite(t, 0, m, c == 7 || c == 11 || c == 12 || c == 17, nil)
		switch c {
		case 7:
			expectWrite(t, 1, m, true, []byte{0})
		case 11:
			expectWrite(t, 1, m, true, big(0, 0))
		case 12:
			expectWrite(t, 1, m, true, []byte{6, 0, 0, 0, 0, 0, 0})
		default:
			expectNone(t, "no field", 1, m)
		}
		for _, dir := range beside() {
			expectNone(t, "no field and no direction", dir, m)
		}
	}
	for _, s := range samples() {
		for _, dir := range beside() {
			expectNone(t, "direction", dir, s.m)
		}
		for c := range 256 {
			m := s.m
			m.Code = uint8(c)
			if !slices.Contains(codes(), m.Code) {
				expectNone(t, "code", s.dir, m)
			}
			expectRow(t, s.dir, m)
		}
	}
}

// P10.2: a message in the other direction is written just if it has a form there.
func TestWriteOtherDirection(t *testing.T) {
	for _, s := range samples() {
		expectRow(t, s.dir, s.m)
		expectRow(t, 1-s.dir, s.m)
	}
	counts := api.Msg{Code: 8, Sub: 11, Words: []uint16{9}}
	expectWrite(t, 1, counts, true, []byte{0, 11, 0, 9})
	expectNone(t, "a count that is asked for", 0, counts)
	silent := api.Msg{Code: 8, Sub: 4, Words: []uint16{0}}
	expectWrite(t, 0, silent, true, []byte{0, 4, 0, 0})
	expectNone(t, "an answer of who has fallen silent", 1, silent)
	expectNone(t, "flags that are asked for", 0, api.Msg{Code: 7, Value: 1})
	expectNone(t, "events that are asked for", 0, api.Msg{Code: 11, Events: 1})
	expectNone(t, "a log that is asked for", 0, api.Msg{Code: 12, Data: []byte{1}})
	expectNone(t, "what is told, asked for", 0, api.Msg{Code: 17, Data: []byte{1}})
}

// P10.2: every number in each field of a number.
func TestWriteEveryNumber(t *testing.T) {
	t.Parallel()
	for x := range 65536 {
		n := uint16(x)
		expectWrite(t, 1, api.Msg{Code: 7, Value: n}, x < 256, []byte{byte(x)})
		expectWrite(t, 1, api.Msg{Code: 11, Status: n, Events: 5}, x == 0 || x == 65535, big(x, 5))
		expectWrite(t, 1, api.Msg{Code: 12, Status: n, Messages: 5}, x == 0 || x == 65535, logging(x, 0, 5, nil))
		for dir := range 2 {
			may := slices.Contains(subs(), x) && (dir == 0 || x != 4)
			expectWrite(t, dir, api.Msg{Code: 8, Sub: n, Words: []uint16{0}}, may, big(x, 0))
			expectNone(t, "no word", dir, api.Msg{Code: 8, Sub: n})
			expectWrite(t, dir, api.Msg{Code: 8, Sub: n, Words: []uint16{0, 0}}, x == 0, big(x, 0, 0))
		}
	}
}

// P10.2: of each Sub each word.
func TestWriteEveryWord(t *testing.T) {
	t.Parallel()
	for dir := range 2 {
		for _, sub := range subs() {
			for x := range 65536 {
				m := api.Msg{Code: 8, Sub: uint16(sub), Words: []uint16{uint16(x)}}
				switch {
				case sub == 0:
					expectWrite(t, dir, m, true, big(0, x))
				case !mayBe(dir, sub, x): // those that may be TestEveryWord writes
					expectNone(t, "wrong word", dir, m)
				}
			}
		}
	}
}

// lengths is lengths of lists, those whose number, or twice of it, or 6 more, has the lowest bits of another one among them.
func lengths() []int {
	l := []int{32767, 32768, 32769, 65529, 65530, 65531, 65535, 65536, 65537, 65538, 65536 + 64, 65536 + 125, 65536 + 251, 1 << 20, 1<<20 + 1}
	for n := range 700 {
		l = append(l, n)
	}
	return l
}

// P10.2: Words of all lengths: with a Sub of 0 from 1 to 125, with each other one just one.
func TestWriteWords(t *testing.T) {
	t.Parallel()
	for _, n := range lengths() {
		for dir := range 2 {
			for _, l := range [][]uint16{words(n), make([]uint16, n)} {
				expectWrite(t, dir, api.Msg{Code: 8, Words: l}, n >= 1 && n <= 125, behind(0, l))
			}
		}
	}
	for _, n := range []int{0, 1, 2, 3, 4, 5, 125, 126, 256, 257, 32769, 65536, 65537} {
		for dir := range 2 {
			for _, sub := range subs()[1:] {
				l := make([]uint16, n)
				expectWrite(t, dir, api.Msg{Code: 8, Sub: uint16(sub), Words: l}, n == 1 && mayBe(dir, sub, 0), behind(sub, l))
			}
		}
	}
}

// P10.2: Data of all lengths.
func TestWriteData(t *testing.T) {
	for _, n := range lengths() {
		for _, data := range [][]byte{noise(n), make([]byte, n)} {
			expectWrite(t, 1, api.Msg{Code: 12, Status: 65535, Events: 1, Messages: 2, Data: data}, n <= 64, logging(65535, 1, 2, data))
			expectWrite(t, 1, api.Msg{Code: 12, Data: data}, n <= 64, logging(0, 0, 0, data))
			expectWrite(t, 1, api.Msg{Code: 17, Data: data}, n >= 1 && n <= 251, telling(data))
			for _, c := range []uint8{7, 8, 11, 12, 17} {
				expectWrite(t, 0, api.Msg{Code: c, Data: data}, n == 0 && c != 8, nil)
			}
		}
	}
}

// P10.2, R4: lists that are nil and lists that are empty are the same.
func TestEmptyLists(t *testing.T) {
	for _, s := range samples() {
		m := s.m
		for i := range reflect.TypeFor[api.Msg]().NumField() {
			f := reflect.ValueOf(&m).Elem().Field(i)
			if f.Kind() != reflect.Slice || f.Len() != 0 {
				continue
			}
			for _, list := range []reflect.Value{reflect.MakeSlice(f.Type(), 0, 3), reflect.Zero(f.Type())} {
				f.Set(list)
				expectWrite(t, s.dir, m, true, s.b)
			}
		}
	}
	for dir := range 2 {
		for _, sub := range subs() {
			expectNone(t, "nil Words", dir, api.Msg{Code: 8, Sub: uint16(sub), Words: nil})
			expectNone(t, "empty Words", dir, api.Msg{Code: 8, Sub: uint16(sub), Words: []uint16{}})
		}
	}
	for _, none := range [][]byte{nil, {}} {
		expectNone(t, "no Data", 1, api.Msg{Code: 17, Data: none})
		expectWrite(t, 1, api.Msg{Code: 12, Data: none}, true, []byte{6, 0, 0, 0, 0, 0, 0})
	}
}

// P10.3: unlike bytes are unlike messages, and unlike messages have unlike bytes, of one code and direction.
func TestOneToOne(t *testing.T) {
	t.Parallel()
	for dir := range 2 {
		for _, c := range codes() {
			byMessage, byBytes := map[string]string{}, map[string]string{}
			for _, b := range candidates() {
				m, e := Parse(dir, c, b)
				if e != api.OK {
					continue
				}
				w, e := Write(dir, m)
				if e != api.OK {
					t.Fatalf("Write(%d, %v) = %d", dir, m, e)
				}
				told := fmt.Sprint(m)
				if was, ok := byMessage[told]; ok && was != string(b) {
					t.Fatalf("%s is told of %v and of %v", told, []byte(was), b)
				}
				if was, ok := byBytes[string(w)]; ok && was != told {
					t.Fatalf("%v is written of %s and of %s", w, was, told)
				}
				byMessage[told], byBytes[string(w)] = string(b), told
			}
			least := 9
			if dir == 0 && c != 8 {
				least = 1
			}
			if len(byMessage) < least || len(byMessage) != len(byBytes) {
				t.Errorf("direction %d, code %d: %d messages, %d lists of bytes", dir, c, len(byMessage), len(byBytes))
			}
		}
	}
}

// candidates is bytes of which some are one another's neighbours: all short lists of some bytes, and the samples with each of their bytes changed.
func candidates() [][]byte {
	all := [][]byte{nil}
	for from := 0; len(all[from]) < 7; from++ {
		for _, x := range []byte{0, 1, 6, 255} {
			all = append(all, append(slices.Clone(all[from]), x))
		}
	}
	for _, s := range samples() {
		all = append(all, s.b)
		for i := range s.b {
			for _, x := range []byte{1, 2, 128} {
				b := slices.Clone(s.b)
				b[i] ^= x
				all = append(all, b)
			}
		}
	}
	return all
}

// P10.2, P10.3: messages of many mixed fields, against the rows told in another way; no two of them have the same bytes.
func TestMixedMessages(t *testing.T) {
	t.Parallel()
	numbers := []uint16{0, 0, 0, 0, 0, 1, 6, 11, 255, 256, 65280, 65535}
	for dir := range 2 {
		written := map[string]api.Msg{}
		chances := noise(8 * 100000)
		for seed := range 100000 {
			x := chances[8*seed : 8*seed+8]
			of := func(i int) uint16 { return numbers[int(x[i])%len(numbers)] }
			m := api.Msg{Code: codes()[seed%5], Words: words(int(x[0]) % 4), Data: noise(int(x[1]) % 4)}
			m.Sub, m.Value, m.Status, m.Events, m.Messages = uint16(x[2]%22), of(3), of(4), of(5), of(6)
			keepMost(&m, dir, x[7])
			expectRow(t, dir, m)
			b, e := Write(dir, m)
			if e != api.OK {
				continue
			}
			key := fmt.Sprint(m.Code, b)
			if was, ok := written[key]; ok && !code.Same(was, m) {
				t.Fatalf("Write(%d, ..) of %v and of %v = %v", dir, was, m, b)
			}
			written[key] = m
		}
		if len(written) < 24 {
			t.Errorf("direction %d: %d messages were written", dir, len(written))
		}
	}
}

// keepMost takes the fields away that a message's form doesn't name, in most cases.
func keepMost(m *api.Msg, dir int, chance byte) {
	if chance%8 == 0 {
		return
	}
	v := reflect.ValueOf(m).Elem()
	for i := range v.NumField() {
		if !slices.Contains(named(dir, m.Code), v.Type().Field(i).Name) {
			v.Field(i).SetZero()
		}
	}
	if m.Code == 8 && m.Sub != 0 && len(m.Words) > 0 && chance%8 < 6 {
		m.Words = []uint16{[]uint16{0, 65280, 256, 9}[chance/8%4]}
	}
}

// R6: what a call answers doesn't hang on calls ahead of it, nor on an order of a map.
func TestAgain(t *testing.T) {
	for range 20 {
		for _, s := range samples() {
			expect(t, s.dir, s.m.Code, s.b, s.m, api.OK)
		}
		for _, x := range brokenRules() {
			expectError(t, x.dir, x.c, x.b, x.e)
		}
	}
}

// spoil changes all that a message's lists have, behind their ends too.
func spoil(m api.Msg) {
	l := m.Words[:cap(m.Words)]
	for i := range l {
		l[i] ^= 65535
	}
	b := m.Data[:cap(m.Data)]
	for i := range b {
		b[i] ^= 255
	}
}

// R5: Parse doesn't change the bytes, nor what is behind their end, and its answer doesn't hang on them.
func TestParseMemory(t *testing.T) {
	for _, s := range samples() {
		room := append(slices.Clone(s.b), 91, 92, 93)
		was := slices.Clone(room)
		m, _ := Parse(s.dir, s.m.Code, room[:len(s.b)])
		if !bytes.Equal(room, was) {
			t.Fatalf("Parse(%d, %d, %v) changes what was handed in to %v", s.dir, s.m.Code, was, room)
		}
		other, _ := Parse(s.dir, s.m.Code, room[:len(s.b)])
		for i := range room {
			room[i] ^= 255
		}
		if !code.Same(m, s.m) {
			t.Fatalf("Parse(%d, %d, %v) hangs on the bytes that were handed in", s.dir, s.m.Code, s.b)
		}
		now := slices.Clone(room)
		spoil(m)
		if !bytes.Equal(room, now) {
			t.Fatalf("Parse(%d, %d, %v) tells lists that share memory with what was handed in", s.dir, s.m.Code, s.b)
		}
		if again, e := Parse(s.dir, s.m.Code, s.b); e != api.OK || !code.Same(other, s.m) || !code.Same(again, s.m) {
			t.Fatalf("answers of Parse(%d, %d, %v) share memory", s.dir, s.m.Code, s.b)
		}
	}
}

// R5: Write doesn't change the message, nor what is behind its lists' ends, and its answer doesn't hang on it.
func TestWriteMemory(t *testing.T) {
	for _, s := range samples() {
		room, space := append(slices.Clone(s.m.Words), 91, 92, 93), append(slices.Clone(s.m.Data), 94, 95, 96)
		wasRoom, wasSpace := slices.Clone(room), slices.Clone(space)
		m := s.m
		m.Words, m.Data = room[:len(s.m.Words)], space[:len(s.m.Data)]
		b, _ := Write(s.dir, m)
		if !slices.Equal(room, wasRoom) || !bytes.Equal(space, wasSpace) {
			t.Fatalf("Write(%d, %v) changes what was handed in", s.dir, s.m)
		}
		other, _ := Write(s.dir, m)
		spoil(m)
		if !bytes.Equal(b, s.b) {
			t.Fatalf("Write(%d, %v) hangs on what was handed in", s.dir, s.m)
		}
		wasRoom, wasSpace = slices.Clone(room), slices.Clone(space)
		clear(b[:cap(b)])
		if !slices.Equal(room, wasRoom) || !bytes.Equal(space, wasSpace) {
			t.Fatalf("Write(%d, %v) tells bytes that share memory with what was handed in", s.dir, s.m)
		}
		if again, e := Write(s.dir, s.m); e != api.OK || !bytes.Equal(other, s.b) || !bytes.Equal(again, s.b) {
			t.Fatalf("answers of Write(%d, %v) share memory", s.dir, s.m)
		}
	}
}

// R5: with an error too, nothing that was handed in is changed.
func TestErrorsChangeNothing(t *testing.T) {
	for _, x := range brokenRules() {
		for dir := -1; dir < 3; dir++ {
			for c := range 256 {
				was := slices.Clone(x.b)
				Parse(dir, uint8(c), x.b)
				if !bytes.Equal(x.b, was) {
					t.Fatalf("Parse(%d, %d, %v) changes what was handed in to %v", dir, c, was, x.b)
				}
			}
		}
	}
	for c := range 256 {
		m := api.Msg{Code: uint8(c), Addr: 1, Sub: 1, Words: words(10), Bits: []bool{true}, Data: noise(10)}
		for dir := -1; dir < 3; dir++ {
			expectNone(t, "too much", dir, m)
		}
		if m.Sub != 1 || !slices.Equal(m.Words, words(10)) || !m.Bits[0] || !bytes.Equal(m.Data, noise(10)) {
			t.Fatalf("Write changes what was handed in to %v", m)
		}
	}
}
