package mei

import (
	"bytes"
	"fmt"
	"math"
	"reflect"
	"slices"
	"testing"

	"busbar/api"
	"busbar/code"
)

// noise is n bytes that look like no pattern, the same ones each time.
func noise(n int) []byte {
	b := make([]byte, n)
	x := uint32(n)*2654435761 + 1
	for i := range b {
		x = x*1664525 + 1013904223
		b[i] = byte(x >> 24)
	}
	return b
}

// beside is directions that are none.
func beside() []int {
	return []int{-1, 2, 3, -2, 13, 14, 43, 255, 256, 257, 65536, 65537, 1 << 32, 1<<32 + 1, math.MinInt, math.MinInt + 1, math.MaxInt}
}

// object is an object in bytes.
func object(id byte, value []byte) []byte {
	return append([]byte{id, byte(len(value))}, value...)
}

// objects is n objects in bytes, all unlike, of no byte, of one, and so on up to most.
func objects(n, most int) []byte {
	var b []byte
	for i := range n {
		b = append(b, object(byte(7*i), noise(300 + i)[:i%(most+1)])...)
	}
	return b
}

// response is a response's bytes, of five fields and what stands behind them.
func response(kind, level, more, next, k int, rest ...byte) []byte {
	return append([]byte{14, byte(kind), byte(level), byte(more), byte(next), byte(k)}, rest...)
}

// The values that may be, told one by one.
func isKind(x int) bool  { return x >= 1 && x <= 4 }
func isLevel(x int) bool { return x&127 >= 1 && x&127 <= 3 }
func isMore(x int) bool  { return x%255 == 0 }

// allLevels is all Levels that may be.
func allLevels() []int { return []int{1, 2, 3, 129, 130, 131} }

// model is the chapter's table told by lengths and places of bytes, not by fields that are read.
func model(dir int, c uint8, b []byte) (api.Msg, api.Errno) {
	m, e := api.Msg{Code: c}, api.OK
	switch {
	case dir != 0 && dir != 1:
		e = api.ErrArg
	case c != 43:
		e = api.ErrCode
	case len(b) == 0:
		e = api.ErrShort
	case b[0] == 13 && len(b) > 252:
		e = api.ErrCount
	case b[0] == 13:
		m.Mei, m.Data = 13, slices.Clone(b[1:])
	case b[0] != 14:
		e = api.ErrSub
	case dir == 0:
		e = modelAsked(b, &m)
	default:
		e = modelTold(b, &m)
	}
	if e != api.OK {
		return api.Msg{}, e
	}
	return m, api.OK
}

func modelAsked(b []byte, m *api.Msg) api.Errno {
	switch {
	case len(b) == 1:
		return api.ErrShort
	case !isKind(int(b[1])):
		return api.ErrValue
	case len(b) == 2:
		return api.ErrShort
	case len(b) > 3:
		return api.ErrLong
	}
	m.Mei, m.Kind, m.Next = b[0], b[1], b[2]
	return api.OK
}

func modelTold(b []byte, m *api.Msg) api.Errno {
	for i, wrong := range []func() api.Errno{
		1: func() api.Errno { return errIf(!isKind(int(b[1])), api.ErrValue) },
		2: func() api.Errno { return errIf(!isLevel(int(b[2])), api.ErrValue) },
		3: func() api.Errno { return errIf(!isMore(int(b[3])), api.ErrValue) },
		4: func() api.Errno { return errIf(b[3] == 0 && b[4] > 0, api.ErrValue) },
		5: func() api.Errno { return errIf(b[1] == 4 && b[5] != 1, api.ErrCount) },
	} {
		if i >= len(b) {
			return api.ErrShort
		}
		if wrong == nil {
			continue
		}
		if e := wrong(); e != api.OK {
			return e
		}
	}
	m.Mei, m.Kind, m.Level, m.More, m.Next = b[0], b[1], b[2], b[3], b[4]
	rest := b[6:]
	for n := int(b[5]); n > 0; n-- {
		if len(rest) < 2 || len(rest)-2 < int(rest[1]) {
			return api.ErrShort
		}
		m.Objects = append(m.Objects, api.Object{ID: rest[0], Value: slices.Clone(rest[2 : 2+int(rest[1])])})
		rest = rest[2+int(rest[1]):]
	}
	return errIf(len(rest) > 0, api.ErrLong)
}

// errIf is an error, if that holds.
func errIf(holds bool, e api.Errno) api.Errno {
	if holds {
		return e
	}
	return api.OK
}

// formBytes is the bytes of a message, told by what each row asks of its fields; and whether there are any.
func formBytes(dir int, m api.Msg) ([]byte, bool) {
	if dir != 0 && dir != 1 || m.Code != 43 {
		return nil, false
	}
	switch {
	case m.Mei == 13:
		may := len(m.Data) < 252 && code.Same(m, api.Msg{Code: 43, Mei: 13, Data: m.Data})
		return append([]byte{13}, m.Data[:min(len(m.Data), 251)]...), may
	case m.Mei != 14 || !isKind(int(m.Kind)):
		return nil, false
	case dir == 0:
		return []byte{14, m.Kind, m.Next}, code.Same(m, api.Msg{Code: 43, Mei: 14, Kind: m.Kind, Next: m.Next})
	}
	if !code.Same(m, api.Msg{Code: 43, Mei: 14, Kind: m.Kind, Level: m.Level, More: m.More, Next: m.Next, Objects: m.Objects}) {
		return nil, false
	}
	if !isLevel(int(m.Level)) || !isMore(int(m.More)) || m.More == 0 && m.Next != 0 || m.Kind == 4 && len(m.Objects) != 1 || len(m.Objects) > 255 {
		return nil, false
	}
	b := response(int(m.Kind), int(m.Level), int(m.More), int(m.Next), len(m.Objects))
	for _, o := range m.Objects {
		if len(o.Value) > 255 {
			return nil, false
		}
		b = append(b, object(o.ID, o.Value)...)
	}
	return b, true
}

// expect asks Parse, and, of what is told, Write: of an error no message is told, of a message the same bytes are written.
func expect(t *testing.T, dir int, c uint8, b []byte, want api.Msg, e api.Errno) {
	t.Helper()
	got, gotE := Parse(dir, c, b)
	if gotE != e || !code.Same(got, want) {
		t.Fatalf("Parse(%d, %d, %v) = %v, %d, want %v, %d", dir, c, b, got, gotE, want, e)
	}
	if e != api.OK {
		return
	}
	if back, backE := Write(dir, got); backE != api.OK || !bytes.Equal(back, b) {
		t.Fatalf("Write(%d, %v) = %v, %d, want %v", dir, got, back, backE, b)
	}
}

// expectModel is expect of what model tells.
func expectModel(t *testing.T, dir int, c uint8, b []byte) {
	t.Helper()
	want, e := model(dir, c, b)
	expect(t, dir, c, b, want, e)
}

// expectError is expect of an error, and no message, of code 43.
func expectError(t *testing.T, dir int, b []byte, e api.Errno) {
	t.Helper()
	expect(t, dir, 43, b, api.Msg{}, e)
}

// expectTold is expectModel of code 43, and asks that the model tells that error, or OK, as the test's own words do.
func expectTold(t *testing.T, dir int, b []byte, e api.Errno) {
	t.Helper()
	if _, want := model(dir, 43, b); want != e {
		t.Fatalf("the tests' model tells %d of %d, %v, not %d", want, dir, b, e)
	}
	expectModel(t, dir, 43, b)
}

// expectNone asks that Write tells ErrArg, and no bytes.
func expectNone(t *testing.T, what string, dir int, m api.Msg) {
	t.Helper()
	if b, e := Write(dir, m); e != api.ErrArg || len(b) != 0 {
		t.Fatalf("%s: Write(%d, code %d, Mei %d, %d objects) = %v, %d, want none and ErrArg", what, dir, m.Code, m.Mei, len(m.Objects), b, e)
	}
}

// expectWrite asks for those bytes of a message that may be, and none of another one.
func expectWrite(t *testing.T, dir int, m api.Msg, may bool, b []byte) {
	t.Helper()
	if !may {
		expectNone(t, "may not be", dir, m)
	} else if got, e := Write(dir, m); e != api.OK || !bytes.Equal(got, b) {
		t.Fatalf("Write(%d, %v) = %v, %d, want %v", dir, m, got, e, b)
	}
}

// expectForm is expectWrite of what formBytes tells; and tells whether there are bytes.
func expectForm(t *testing.T, dir int, m api.Msg) bool {
	t.Helper()
	b, may := formBytes(dir, m)
	expectWrite(t, dir, m, may, b)
	return may
}

// expectFormIs is expectForm, and asks that formBytes tells bytes, or none, as the test's own words do.
func expectFormIs(t *testing.T, may bool, dir int, m api.Msg) {
	t.Helper()
	if expectForm(t, dir, m) != may {
		t.Fatalf("the tests tell both that Write(%d, %v) has bytes and that it has none", dir, m)
	}
}

// sample is bytes of a row of the table, and the message that they are.
type sample struct {
	dir int
	b   []byte
	m   api.Msg
}

// samples is messages of every row of the table, at the edges of their fields.
func samples() []sample {
	var l []sample
	for _, n := range []int{0, 1, 2, 3, 13, 14, 127, 128, 250, 251} {
		for _, data := range [][]byte{noise(n), make([]byte, n), bytes.Repeat([]byte{14}, n)} {
			for dir := range 2 {
				l = append(l, sample{dir, append([]byte{13}, data...), api.Msg{Code: 43, Mei: 13, Data: data}})
			}
		}
	}
	for kind := uint8(1); kind < 5; kind++ {
		for _, next := range []uint8{0, 1, 4, 13, 14, 127, 128, 255} {
			l = append(l, sample{0, []byte{14, kind, next}, api.Msg{Code: 43, Mei: 14, Kind: kind, Next: next}})
		}
		for _, level := range allLevels() {
			l = append(l, answer(kind, uint8(level), 0, 0), answer(kind, uint8(level), 255, 0), answer(kind, uint8(level), 255, 255))
		}
		for i, lengths := range listLengths() {
			if kind < 4 || len(lengths) == 1 {
				l = append(l, answer(kind, uint8(1+i%3), uint8(255*(i%2)), uint8(i%2*(3+i)), lengths...))
			}
		}
	}
	return l
}

// listLengths is lengths of the Values that a list of objects may have.
func listLengths() [][]int {
	return [][]int{
		{}, {0}, {1}, {2}, {3}, {127}, {128}, {254}, {255},
		{0, 0}, {0, 1}, {1, 0}, {255, 255}, {255, 0}, {0, 255}, {3, 2, 1}, {0, 0, 0}, {14, 13, 20, 5, 1},
		slices.Repeat([]int{0}, 254), slices.Repeat([]int{0}, 255), slices.Repeat([]int{1}, 255), slices.Repeat([]int{1}, 60),
	}
}

// answer is a response of so many objects, of those lengths; a Kind of one object has one of three bytes, if none is told.
func answer(kind, level, more, next uint8, lengths ...int) sample {
	if kind == 4 && len(lengths) == 0 {
		lengths = []int{3}
	}
	m := api.Msg{Code: 43, Mei: 14, Kind: kind, Level: level, More: more, Next: next}
	b := []byte{14, kind, level, more, next, byte(len(lengths))}
	for i, n := range lengths {
		o := api.Object{ID: uint8(255 - 3*i), Value: noise(n + i)[i:]}
		m.Objects = append(m.Objects, o)
		b = append(b, object(o.ID, o.Value)...)
	}
	return sample{1, b, m}
}

// The chapter's example, told field by field.
func TestExample(t *testing.T) {
	expect(t, api.Request, 43, []byte{14, 1, 0}, api.Msg{Code: 43, Mei: 14, Kind: 1, Next: 0}, api.OK)
}

// P12.1: messages of each row, told byte by byte, with another value in each field.
func TestRows(t *testing.T) {
	for dir := range 2 {
		expect(t, dir, 43, []byte{13}, api.Msg{Code: 43, Mei: 13}, api.OK)
		expect(t, dir, 43, []byte{13, 14, 1, 0}, api.Msg{Code: 43, Mei: 13, Data: []byte{14, 1, 0}}, api.OK)
	}
	expect(t, 0, 43, []byte{14, 3, 7}, api.Msg{Code: 43, Mei: 14, Kind: 3, Next: 7}, api.OK)
	expect(t, 0, 43, []byte{14, 4, 255}, api.Msg{Code: 43, Mei: 14, Kind: 4, Next: 255}, api.OK)
	expect(t, 1, 43, []byte{14, 2, 131, 255, 9, 0}, api.Msg{Code: 43, Mei: 14, Kind: 2, Level: 131, More: 255, Next: 9}, api.OK)
	expect(t, 1, 43, []byte{14, 1, 2, 0, 0, 3, 0, 2, 65, 66, 1, 0, 2, 3, 86, 50, 49},
		api.Msg{Code: 43, Mei: 14, Kind: 1, Level: 2, Objects: []api.Object{{ID: 0, Value: []byte("AB")}, {ID: 1}, {ID: 2, Value: []byte("V21")}}}, api.OK)
	expect(t, 1, 43, []byte{14, 4, 129, 0, 0, 1, 5, 1, 7}, api.Msg{Code: 43, Mei: 14, Kind: 4, Level: 129, Objects: []api.Object{{ID: 5, Value: []byte{7}}}}, api.OK)
}

// anyBytes is bytes of which each is a form's, or none's.
func anyBytes() [][]byte {
	return [][]byte{
		nil, {}, {0}, {13}, {14}, {15}, {13, 1, 2}, {14, 1, 0}, {14, 0, 0}, {14, 1}, {14, 1, 0, 0},
		response(1, 1, 0, 0, 0), response(1, 1, 0, 0, 2, objects(2, 9)...), response(4, 1, 0, 0, 2, objects(2, 9)...), response(1, 4, 0, 0, 0), response(1, 1, 0, 7, 0),
		append([]byte{13}, noise(251)...), append([]byte{13}, noise(252)...), noise(9), noise(252), noise(300),
	}
}

// P12.1: directions beside both are ErrArg, whatever the code and the bytes are.
func TestParseDirection(t *testing.T) {
	for _, dir := range beside() {
		for c := range 256 {
			for _, b := range anyBytes() {
				expect(t, dir, uint8(c), b, api.Msg{}, api.ErrArg)
			}
		}
	}
}

// P12.1: every code but 43 is ErrCode, whatever the bytes are.
func TestParseCode(t *testing.T) {
	for dir := range 2 {
		for c := range 256 {
			for _, b := range anyBytes() {
				if c == 43 {
					expectModel(t, dir, 43, b)
				} else {
					expect(t, dir, uint8(c), b, api.Msg{}, api.ErrCode)
				}
			}
		}
	}
}

// P12.1: nothing at all.
func TestNothing(t *testing.T) {
	for dir := range 2 {
		expectError(t, dir, nil, api.ErrShort)
		expectError(t, dir, []byte{}, api.ErrShort)
	}
}

// P12.1, P12.2: messages of each row of the table, both ways; and in the other direction.
func TestSamples(t *testing.T) {
	for _, s := range samples() {
		expect(t, s.dir, 43, s.b, s.m, api.OK)
		expectModel(t, 1-s.dir, 43, s.b)
	}
}

// P12.1: each form of Mei 14 cut off at each of its bytes is ErrShort; with bytes more, whatever they are, ErrLong.
func TestCutAndLong(t *testing.T) {
	t.Parallel()
	for _, s := range samples() {
		if s.m.Mei == 13 {
			continue
		}
		for n := range len(s.b) {
			// Of an object of very many bytes few cuts tell what all of them do.
			if len(s.b) < 2000 || n < 700 || n%17 == 0 || n > len(s.b)-300 {
				expectTold(t, s.dir, s.b[:n], api.ErrShort)
			}
		}
		for _, more := range [][]byte{{0}, {1}, {14}, {255}, {0, 0}, {5, 1, 9}, noise(300)} {
			expectTold(t, s.dir, slices.Concat(s.b, more), api.ErrLong)
		}
		expectTold(t, s.dir, slices.Concat(s.b, s.b), api.ErrLong)
	}
}

// P12.1: every value of Mei, with bytes behind it of which there is a form, and others.
func TestEveryMei(t *testing.T) {
	for dir := range 2 {
		for x := range 256 {
			for _, rest := range [][]byte{nil, {1}, {1, 0}, {0, 0}, {1, 0, 0}, response(1, 1, 0, 0, 0)[1:], response(2, 3, 255, 4, 2, objects(2, 5)...)[1:], noise(251), noise(252), noise(400)} {
				b := append([]byte{byte(x)}, rest...)
				expectModel(t, dir, 43, b)
				if x != 13 && x != 14 {
					expectError(t, dir, b, api.ErrSub)
				}
			}
		}
	}
}

// lengths is lengths of lists, those whose number has the lowest 8, or 16, bits of another one among them.
func lengths() []int {
	l := []int{32767, 32768, 32769, 65535, 65536, 65537, 65536 + 251, 65536 + 252, 65536 + 255, 1 << 17, 1<<20 + 1}
	for n := range 700 {
		l = append(l, n)
	}
	return l
}

// P12.1: Mei 13 with all numbers of bytes behind it, whatever they are, in both directions alike.
func TestCarried(t *testing.T) {
	for dir := range 2 {
		for _, n := range lengths() {
			for _, data := range [][]byte{noise(n), make([]byte, n), bytes.Repeat([]byte{13}, n), bytes.Repeat([]byte{255}, n)} {
				b := append([]byte{13}, data...)
				if n <= 251 {
					expect(t, dir, 43, b, api.Msg{Code: 43, Mei: 13, Data: data}, api.OK)
				} else {
					expectError(t, dir, b, api.ErrCount)
				}
			}
		}
		// Each byte of it, at its beginning, in its midst and at its end.
		for x := range 256 {
			for _, i := range []int{0, 1, 100, 249, 250} {
				data := noise(251)
				data[i] = byte(x)
				expect(t, dir, 43, append([]byte{13}, data...), api.Msg{Code: 43, Mei: 13, Data: data}, api.OK)
				expect(t, dir, 43, append([]byte{13}, data[:i+1]...), api.Msg{Code: 43, Mei: 13, Data: data[:i+1]}, api.OK)
			}
		}
	}
}

// P12.1: of Mei 14's request every Kind and every Next, cut off behind each field, and with bytes more.
func TestAsked(t *testing.T) {
	expectError(t, 0, []byte{14}, api.ErrShort)
	for kind := range 256 {
		if !slices.Contains([]int{1, 2, 3, 4}, kind) {
			for _, rest := range [][]byte{nil, {0}, {1}, {0, 0}, {255}, noise(5), noise(300)} {
				expectError(t, 0, append([]byte{14, byte(kind)}, rest...), api.ErrValue)
			}
			for next := range 256 {
				expectError(t, 0, []byte{14, byte(kind), byte(next)}, api.ErrValue)
			}
			continue
		}
		expectError(t, 0, []byte{14, byte(kind)}, api.ErrShort)
		for next := range 256 {
			b := []byte{14, byte(kind), byte(next)}
			expect(t, 0, 43, b, api.Msg{Code: 43, Mei: 14, Kind: uint8(kind), Next: uint8(next)}, api.OK)
			for _, more := range [][]byte{{0}, {1}, {14}, {255}, {0, 0, 0}, noise(300)} {
				expectError(t, 0, append(slices.Clone(b), more...), api.ErrLong)
			}
		}
	}
}

// behindNext is what may stand behind a response's Next, and what may not.
func behindNext() [][]byte {
	return [][]byte{
		{0}, append([]byte{1}, objects(1, 3)...), append([]byte{1}, object(5, []byte("five"))...), append([]byte{3}, objects(3, 3)...),
		nil, {1}, {1, 0}, {1, 0, 1}, {2, 0, 0}, {0, 0}, {1, 0, 0, 0}, noise(40), noise(300),
	}
}

// expectResponse asks of four fields what is told, with each that stands behind them: e of the fields, whatever that is; or what it tells by itself.
func expectResponse(t *testing.T, behind [][]byte, kind, level, more, next int, e api.Errno) {
	t.Helper()
	for _, rest := range behind {
		b := append(response(kind, level, more, next, 0)[:5], rest...)
		if e != api.OK {
			expectTold(t, 1, b, e)
			continue
		}
		expectModel(t, 1, 43, b)
	}
	one := response(kind, level, more, next, 1, 9, 2, 8, 7)
	want := api.Msg{}
	if e == api.OK {
		want = api.Msg{Code: 43, Mei: 14, Kind: uint8(kind), Level: uint8(level), More: uint8(more), Next: uint8(next), Objects: []api.Object{{ID: 9, Value: []byte{8, 7}}}}
	}
	expect(t, 1, 43, one, want, e)
}

// P12.1: of a response every Kind and every Level.
func TestEveryKindAndLevel(t *testing.T) {
	t.Parallel()
	behind := behindNext()
	for kind := range 256 {
		for level := range 256 {
			e := api.ErrValue
			if slices.Contains([]int{1, 2, 3, 4}, kind) && slices.Contains([]int{1, 2, 3, 129, 130, 131}, level) {
				e = api.OK
			}
			expectResponse(t, behind, kind, level, 0, 0, e)
			expectResponse(t, behind[level%3:level%3+1], kind, level, 255, level, e)
		}
	}
}

// P12.1: of a response every More and every Next.
func TestEveryMoreAndNext(t *testing.T) {
	t.Parallel()
	behind := behindNext()
	for more := range 256 {
		for next := range 256 {
			e := api.ErrValue
			if more == 255 || more == 0 && next == 0 {
				e = api.OK
			}
			for kind := 1; kind < 5; kind++ {
				i := (more + next + kind) % len(behind)
				expectResponse(t, behind[i:i+1], kind, allLevels()[i%6], more, next, e)
			}
			if more == 0 || next == 0 || more == 255 || next == 255 {
				expectResponse(t, behind, 1+next%4, 1+next%3, more, next, e)
			}
		}
	}
}

// P12.1: of a response each Kind with each k: so many objects, none, one fewer, and one more.
func TestEveryNumberOfObjects(t *testing.T) {
	t.Parallel()
	for kind := 1; kind < 5; kind++ {
		for k := range 256 {
			for _, most := range []int{0, 1, 5} {
				e, short, long := api.OK, api.ErrShort, api.ErrLong
				if kind == 4 && k != 1 {
					e, short, long = api.ErrCount, api.ErrCount, api.ErrCount
				}
				of := func(n int) []byte { return response(kind, 129, 255, k, k, objects(n, most)...) }
				expectTold(t, 1, of(k), e)
				expectTold(t, 1, of(k+1), long)
				expectTold(t, 1, append(of(k), 0), long)
				if k > 0 {
					expectTold(t, 1, of(0), short)
					expectTold(t, 1, of(k-1), short)
					expectTold(t, 1, of(k)[:len(of(k))-1], short)
				}
			}
		}
	}
}

// P12.1: with Kind 4 every k but 1 is ErrCount, whatever stands behind it.
func TestOneObject(t *testing.T) {
	for k := range 256 {
		for _, n := range []int{0, 1, 2, k} {
			for more := range 2 {
				b := response(4, 3, 255*more, 7*more, k, objects(n, 20)...)
				if k != 1 {
					expectTold(t, 1, b, api.ErrCount)
					expectTold(t, 1, append(b, 1), api.ErrCount)
					expectTold(t, 1, b[:6], api.ErrCount)
					expectTold(t, 1, b[:5], api.ErrShort)
				} else {
					expectModel(t, 1, 43, b)
				}
			}
		}
	}
	expectTold(t, 1, response(4, 3, 0, 0, 1), api.ErrShort)
	expectTold(t, 1, response(4, 3, 0, 0, 1, 8), api.ErrShort)
	expectTold(t, 1, response(4, 3, 0, 0, 1, 8, 0), api.OK)
	expectTold(t, 1, response(4, 3, 0, 0, 1, 8, 0, 9), api.ErrLong)
	expectTold(t, 1, response(4, 3, 0, 0, 1, 8, 0, 9, 0), api.ErrLong)
}

// P12.1: objects of every ID and every number of bytes, alone, ahead of others and behind them, cut off and with a byte more.
func TestEveryObject(t *testing.T) {
	t.Parallel()
	for j := range 256 {
		for _, value := range [][]byte{noise(j), make([]byte, j), bytes.Repeat([]byte{255}, j)} {
			this := object(byte(37*j), value)
			o := api.Object{ID: byte(37 * j), Value: value}
			a, b := api.Object{ID: 1, Value: []byte{2}}, api.Object{ID: 3}
			for _, l := range [][]api.Object{{o}, {o, a}, {o, b}, {a, o}, {b, o}, {a, o, b}, {o, o, o}} {
				bytesOf := response(3, 2, 0, 0, len(l))
				for _, p := range l {
					bytesOf = append(bytesOf, object(p.ID, p.Value)...)
				}
				expect(t, 1, 43, bytesOf, api.Msg{Code: 43, Mei: 14, Kind: 3, Level: 2, Objects: l}, api.OK)
				expectError(t, 1, bytesOf[:len(bytesOf)-1], api.ErrShort)
				expectError(t, 1, append(bytesOf, 0), api.ErrLong)
			}
			// A number of bytes beside the right one.
			for x := range 256 {
				this[1] = byte(x)
				e := api.OK
				if x > j {
					e = api.ErrShort
				} else if x < j {
					e = api.ErrLong
				}
				expectTold(t, 1, response(3, 2, 0, 0, 1, this...), e)
			}
		}
	}
	for id := range 256 {
		expect(t, 1, 43, response(4, 1, 0, 0, 1, byte(id), 1, 2), api.Msg{Code: 43, Mei: 14, Kind: 4, Level: 1, Objects: []api.Object{{ID: uint8(id), Value: []byte{2}}}}, api.OK)
	}
}

// P12.1: 255 objects of 255 bytes, as long as a form may be, and cut off, and with a byte more.
func TestLongest(t *testing.T) {
	b := response(1, 1, 255, 255, 255)
	var l []api.Object
	for i := range 255 {
		o := api.Object{ID: uint8(i), Value: noise(255 + i)[i:]}
		l = append(l, o)
		b = append(b, object(o.ID, o.Value)...)
	}
	expect(t, 1, 43, b, api.Msg{Code: 43, Mei: 14, Kind: 1, Level: 1, More: 255, Next: 255, Objects: l}, api.OK)
	expectError(t, 1, b[:len(b)-1], api.ErrShort)
	expectError(t, 1, b[:len(b)-257], api.ErrShort)
	expectError(t, 1, b[:len(b)-256], api.ErrShort)
	expectError(t, 1, append(b, 0), api.ErrLong)
}

// P12.1: fields right or wrong in all ways at once, cut off behind each of them, and with bytes more: the first that is read counts.
func TestSeveralWrong(t *testing.T) {
	for wrong := range 64 {
		b := response(4, 1, 255, 7, 1, 9, 1, 2)
		var l [6]api.Errno
		for i, x := range []struct {
			at, value int
			e         api.Errno
		}{{0, 12, api.ErrSub}, {1, 5, api.ErrValue}, {2, 4, api.ErrValue}, {3, 1, api.ErrValue}, {5, 2, api.ErrCount}} {
			if wrong>>i&1 == 1 {
				b[x.at], l[x.at] = byte(x.value), x.e
			}
		}
		if wrong>>5 == 1 && b[3] == 255 {
			b[3], l[4] = 0, api.ErrValue
		}
		for n := range len(b) {
			e := api.ErrShort
			for _, x := range l[:min(n, 6)] {
				if x != api.OK {
					e = x
					break
				}
			}
			expectTold(t, 1, b[:n], e)
		}
		whole, long := api.OK, api.ErrLong
		for _, x := range slices.Backward(l[:]) {
			if x != api.OK {
				whole, long = x, x
			}
		}
		expectTold(t, 1, b, whole)
		for _, more := range [][]byte{{0}, {9, 1, 2}, noise(300)} {
			// Two objects are asked for just where k is wrong, which counts ahead of them.
			expectTold(t, 1, slices.Concat(b, more), long)
		}
	}
}

// P12.1: errors of several kinds at once, told one by one.
func TestFirstWrong(t *testing.T) {
	long := noise(300)
	for _, x := range []struct {
		dir int
		b   []byte
		e   api.Errno
	}{
		{0, append([]byte{12}, long...), api.ErrSub}, {0, append([]byte{0, 0}, long...), api.ErrSub}, {1, []byte{15, 0, 0, 1, 9, 9}, api.ErrSub},
		{0, []byte{14, 0}, api.ErrValue}, {0, []byte{14, 5}, api.ErrValue}, {0, append([]byte{14, 0, 0}, long...), api.ErrValue},
		{1, []byte{14, 0}, api.ErrValue}, {1, []byte{14, 1, 0}, api.ErrValue}, {1, []byte{14, 1, 1, 1}, api.ErrValue}, {1, []byte{14, 1, 1, 0, 1}, api.ErrValue},
		{1, []byte{14}, api.ErrShort}, {1, []byte{14, 1}, api.ErrShort}, {1, []byte{14, 1, 1}, api.ErrShort}, {1, []byte{14, 1, 1, 0}, api.ErrShort}, {1, []byte{14, 1, 1, 0, 0}, api.ErrShort},
		{1, []byte{14, 4, 1, 0, 0, 0}, api.ErrCount}, {1, []byte{14, 4, 1, 0, 0, 2}, api.ErrCount}, {1, []byte{14, 4, 1, 0, 0, 255, 1}, api.ErrCount},
		{1, []byte{14, 4, 1, 0, 1, 0}, api.ErrValue}, {1, []byte{14, 4, 1, 2, 1, 0}, api.ErrValue}, {1, []byte{14, 4, 0, 0, 0, 0}, api.ErrValue}, {1, []byte{14, 5, 1, 0, 0, 0, 0}, api.ErrValue},
		{1, append([]byte{14, 4, 1, 0, 0, 0}, long...), api.ErrCount}, {1, append([]byte{14, 1, 1, 0, 0, 0}, long...), api.ErrLong},
		{0, append([]byte{13}, long...), api.ErrCount}, {1, append([]byte{13}, long...), api.ErrCount},
	} {
		expectTold(t, x.dir, x.b, x.e)
	}
}

// P12.1: bytes that look like no pattern, and samples with each byte changed, against the table told in another way.
func TestAgainstModel(t *testing.T) {
	t.Parallel()
	for dir := range 2 {
		for n := range 600 {
			for _, b := range [][]byte{noise(n), make([]byte, n), bytes.Repeat([]byte{255}, n), bytes.Repeat([]byte{14}, n), append([]byte{14}, noise(n)...), append([]byte{14, 2, 3, 255}, noise(n)...), append([]byte{14, 2, 3, 0, 0}, noise(n)...)} {
				expectModel(t, dir, 43, b)
			}
		}
	}
	for _, s := range samples() {
		for i := range s.b {
			// Of very many objects few bytes tell what all of them do.
			if i > 50 && i%11 > 0 || i > 300 && i%97 > 0 {
				continue
			}
			b := slices.Clone(s.b)
			for _, x := range []byte{0, 1, 2, 3, 4, 5, 13, 14, 127, 128, 129, 131, 132, 254, 255, b[i] + 1, b[i] - 1, b[i] + 2, b[i] - 2} {
				b[i] = x
				expectModel(t, s.dir, 43, b)
			}
			if i > 12 {
				continue
			}
			for x := range 256 {
				b[i] = byte(x)
				expectModel(t, s.dir, 43, b)
			}
		}
	}
}

// P12.1: responses that are right in most fields, cut or with bytes more, against the table told in another way.
func TestMixedBytes(t *testing.T) {
	t.Parallel()
	chances := noise(1 << 20)
	chance := func(n int) int {
		if len(chances) < 2 {
			chances = noise(1<<20 - n)
		}
		x := (int(chances[0])*256 + int(chances[1])) % n
		chances = chances[2:]
		return x
	}
	pick := func(right, wrong int) int {
		if chance(24) == 0 {
			return wrong
		}
		return right
	}
	counts := map[api.Errno]int{}
	for range 200000 {
		more, n := 255*chance(2), chance(5)
		kind := pick(1+chance(4), chance(256))
		if kind == 4 {
			n = pick(1, n)
		}
		b := response(kind, pick(allLevels()[chance(6)], chance(256)), pick(more, chance(256)), pick(more/255*chance(9), chance(256)), n)
		b[0] = byte(pick(14, chance(256)))
		for range n {
			o := object(byte(chance(256)), noise(chance(5)))
			o[1] = byte(pick(int(o[1]), chance(8)))
			b = append(b, o...)
		}
		b = append(b[:pick(len(b), chance(len(b)))], noise(pick(0, 1+chance(3)))...)
		_, e := model(1, 43, b)
		counts[e]++
		expectModel(t, 1, 43, b)
	}
	for _, e := range []api.Errno{api.OK, api.ErrShort, api.ErrLong, api.ErrCount, api.ErrValue, api.ErrSub} {
		if counts[e] < 1000 {
			t.Errorf("%d responses tell %d", counts[e], e)
		}
	}
}

// R1: very many bytes are taken, too.
func TestHuge(t *testing.T) {
	huge := make([]byte, 1<<24)
	for dir := range 2 {
		expectError(t, dir, huge, api.ErrSub)
		huge[0] = 13
		expectError(t, dir, huge, api.ErrCount)
		copy(huge, response(1, 1, 0, 0, 3))
		expectError(t, dir, huge, api.ErrLong)
		clear(huge[:9])
	}
}

// setField gives a field of a message a value that isn't zero, the smallest or the greatest of its kind.
func setField(v reflect.Value, greatest bool) {
	switch v.Kind() {
	case reflect.Uint8, reflect.Uint16:
		v.SetUint(1)
		if greatest {
			v.SetUint(1<<v.Type().Bits() - 1)
		}
	case reflect.Slice:
		n := 1
		if greatest {
			n = 70000
		}
		v.Set(reflect.MakeSlice(v.Type(), n, n))
	default:
		panic("the tests know no field of kind " + v.Kind().String())
	}
}

// named is the fields that a message's form names.
func named(s sample) []string {
	switch {
	case s.m.Mei == 13:
		return []string{"Code", "Mei", "Data"}
	case s.dir == 0:
		return []string{"Code", "Mei", "Kind", "Next"}
	}
	return []string{"Code", "Mei", "Kind", "Level", "More", "Next", "Objects"}
}

// P12.2: a field set that the form does not name: each field of api.Msg by itself, of each row.
func TestWriteOtherFields(t *testing.T) {
	for _, s := range samples() {
		for i := range reflect.TypeFor[api.Msg]().NumField() {
			name := reflect.TypeFor[api.Msg]().Field(i).Name
			for _, greatest := range []bool{false, true} {
				m := s.m
				setField(reflect.ValueOf(&m).Elem().Field(i), greatest)
				if !slices.Contains(named(s), name) {
					expectNone(t, name, s.dir, m)
				}
				expectForm(t, s.dir, m)
				expectForm(t, 1-s.dir, m)
			}
		}
	}
}

// P12.2: a message of which one field alone is set, beside its code, or its code and its Mei.
func TestWriteOneField(t *testing.T) {
	t.Parallel()
	for dir := range 2 {
		for c := range 256 {
			for _, x := range []uint8{0, 13, 14} {
				none := api.Msg{Code: uint8(c), Mei: x}
				expectFormIs(t, c == 43 && x == 13, dir, none)
				for i := 1; i < reflect.TypeFor[api.Msg]().NumField(); i++ {
					name := reflect.TypeFor[api.Msg]().Field(i).Name
					for _, greatest := range []bool{false, true} {
						m := none
						setField(reflect.ValueOf(&m).Elem().Field(i), greatest)
						may := c == 43 && x == 13 && name == "Data" && !greatest || c == 43 && x == 14 && name == "Kind" && !greatest && dir == 0
						expectFormIs(t, may, dir, m)
					}
				}
			}
		}
	}
}

// P12.2: every number in each field of a byte, with none of the others wrong.
func TestWriteEveryNumber(t *testing.T) {
	one := []api.Object{{ID: 3, Value: []byte{4}}}
	for x := range 256 {
		n := uint8(x)
		for dir := range 2 {
			expectFormIs(t, x == 43, dir, api.Msg{Code: n, Mei: 13, Data: []byte{1}})
			expectFormIs(t, x == 43 && dir == 0, dir, api.Msg{Code: n, Mei: 14, Kind: 1, Next: 2})
			expectFormIs(t, x == 43 && dir == 1, dir, api.Msg{Code: n, Mei: 14, Kind: 1, Level: 2})
			expectFormIs(t, x == 13, dir, api.Msg{Code: 43, Mei: n})
			expectFormIs(t, x == 13, dir, api.Msg{Code: 43, Mei: n, Data: []byte{1, 1, 0, 0, 0}})
			expectFormIs(t, x == 14 && dir == 0, dir, api.Msg{Code: 43, Mei: n, Kind: 1})
			expectFormIs(t, x == 14 && dir == 1, dir, api.Msg{Code: 43, Mei: n, Kind: 1, Level: 1, Objects: one})
			expectFormIs(t, dir == 0 && isKind(x), dir, api.Msg{Code: 43, Mei: 14, Kind: n, Next: 9})
			expectFormIs(t, dir == 0, dir, api.Msg{Code: 43, Mei: 14, Kind: 4, Next: n})
			expectFormIs(t, dir == 1 && isKind(x), dir, api.Msg{Code: 43, Mei: 14, Kind: n, Level: 1, Objects: one})
			for kind := uint8(1); kind < 5; kind++ {
				m := api.Msg{Code: 43, Mei: 14, Kind: kind, Level: 131, Objects: one}
				level, more, next, last := m, m, m, m
				level.Level, more.More, next.Next, last.Next, last.More = n, n, n, n, 255
				expectFormIs(t, dir == 1 && slices.Contains(allLevels(), x), dir, level)
				expectFormIs(t, dir == 1 && (x == 0 || x == 255), dir, more)
				expectFormIs(t, dir == 1 && x == 0, dir, next)
				expectFormIs(t, dir == 1, dir, last)
				more.Next = 1
				expectFormIs(t, dir == 1 && x == 255, dir, more)
				m.Objects = []api.Object{{ID: n, Value: []byte{n}}}
				expectFormIs(t, dir == 1, dir, m)
			}
		}
	}
}

// P12.2: each code that has no form; and a direction beside both.
func TestWriteCodeAndDirection(t *testing.T) {
	for i, s := range samples() {
		for _, dir := range beside() {
			expectNone(t, "direction", dir, s.m)
		}
		for c := range 256 {
			m := s.m
			m.Code = uint8(c)
			for dir := range 2 {
				if c != 43 {
					expectNone(t, "code", dir, m)
				}
			}
			if i%9 > 0 {
				continue
			}
			for _, dir := range beside() {
				expectNone(t, "code and direction", dir, m)
			}
		}
	}
}

// P12.2: a message of Mei 13 is written in both directions alike, one of Mei 14 in its own.
func TestWriteOtherDirection(t *testing.T) {
	for _, s := range samples() {
		expectFormIs(t, true, s.dir, s.m)
		expectFormIs(t, s.m.Mei == 13, 1-s.dir, s.m)
		if s.m.Mei == 13 {
			expectWrite(t, 1-s.dir, s.m, true, s.b)
		}
		other := s.m
		other.Mei = 27 - s.m.Mei
		expectNone(t, "other Mei", s.dir, other)
		expectNone(t, "other Mei and direction", 1-s.dir, other)
	}
}

// P12.2: messages that have no form, told one by one.
func TestWriteNone(t *testing.T) {
	two := []api.Object{{ID: 1, Value: []byte{2}}, {ID: 3}}
	for what, l := range map[string][2][]api.Msg{
		"a Mei beside both":             {{{Code: 43}, {Mei: 12}, {Mei: 15, Kind: 1}}, {{}, {Mei: 12}, {Mei: 142, Kind: 1, Level: 1}}},
		"Data of 252 bytes":             {{{Mei: 13, Data: noise(252)}}, {{Mei: 13, Data: noise(252)}}},
		"Data beside Mei 14":            {{{Mei: 14, Kind: 1, Data: []byte{0}}, {Mei: 14, Data: []byte{1, 0}}}, {{Mei: 14, Kind: 1, Level: 1, Data: []byte{0}}, {Mei: 14, Data: []byte{1, 1, 0, 0, 0}}}},
		"no Kind":                       {{{Mei: 14}, {Mei: 14, Next: 1}}, {{Mei: 14, Level: 1}}},
		"a Kind of 5":                   {{{Mei: 14, Kind: 5}}, {{Mei: 14, Kind: 5, Level: 1}}},
		"a Kind of Mei 13":              {{{Mei: 13, Kind: 1}}, {{Mei: 13, Kind: 1}}},
		"no Level":                      {nil, {{Mei: 14, Kind: 1}, {Mei: 14, Kind: 4, Objects: two[:1]}}},
		"a Level of 4, of 128, of 132":  {nil, {{Mei: 14, Kind: 1, Level: 4}, {Mei: 14, Kind: 1, Level: 128}, {Mei: 14, Kind: 1, Level: 132}}},
		"a Level that is asked for":     {{{Mei: 14, Kind: 1, Level: 1}}, nil},
		"a More of 1, of 254":           {nil, {{Mei: 14, Kind: 1, Level: 1, More: 1}, {Mei: 14, Kind: 1, Level: 1, More: 254, Next: 1}}},
		"a More that is asked for":      {{{Mei: 14, Kind: 1, More: 255}, {Mei: 14, Kind: 1, More: 255, Next: 1}}, nil},
		"a Next, and no More":           {nil, {{Mei: 14, Kind: 1, Level: 1, Next: 1}, {Mei: 14, Kind: 4, Level: 1, Next: 255, Objects: two[:1]}}},
		"two objects, or none, of one":  {nil, {{Mei: 14, Kind: 4, Level: 1, Objects: two}, {Mei: 14, Kind: 4, Level: 1}, {Mei: 14, Kind: 4, Level: 1, Objects: []api.Object{}}}},
		"an object that is asked for":   {{{Mei: 14, Kind: 4, Objects: two[:1]}, {Mei: 14, Kind: 1, Objects: []api.Object{{}}}}, nil},
		"an object beside Data":         {{{Mei: 13, Objects: two}}, {{Mei: 13, Objects: two, Data: []byte{1}}}},
		"256 objects":                   {nil, {{Mei: 14, Kind: 1, Level: 1, Objects: make([]api.Object, 256)}, {Mei: 14, Kind: 1, Level: 1, Objects: make([]api.Object, 257)}}},
		"an object of 256 bytes":        {nil, {{Mei: 14, Kind: 1, Level: 1, Objects: []api.Object{{Value: noise(256)}}}, {Mei: 14, Kind: 4, Level: 1, Objects: []api.Object{{Value: noise(257)}}}}},
		"a refused one":                 {{{Mei: 14, Kind: 1, Fail: 1}, {Mei: 13, Fail: 1}}, {{Mei: 14, Kind: 1, Level: 1, Fail: 1}, {Mei: 13, Fail: 4}}},
		"an object's value is too long": {nil, {{Mei: 14, Kind: 1, Level: 1, Objects: []api.Object{{ID: 1}, {Value: make([]byte, 256)}}}, {Mei: 14, Kind: 1, Level: 1, Objects: []api.Object{{Value: make([]byte, 258)}, {ID: 1}}}}},
	} {
		for dir, messages := range l {
			for _, m := range messages {
				m.Code = 43
				expectNone(t, what, dir, m)
				expectFormIs(t, false, dir, m)
			}
		}
	}
}

// P12.2: Data of all lengths.
func TestWriteData(t *testing.T) {
	for _, n := range lengths() {
		for _, data := range [][]byte{noise(n), make([]byte, n), bytes.Repeat([]byte{1}, n)} {
			for dir := range 2 {
				expectFormIs(t, n <= 251, dir, api.Msg{Code: 43, Mei: 13, Data: data})
				expectFormIs(t, n == 0 && dir == 0, dir, api.Msg{Code: 43, Mei: 14, Kind: 1, Data: data})
				expectFormIs(t, n == 0 && dir == 1, dir, api.Msg{Code: 43, Mei: 14, Kind: 1, Level: 1, Data: data})
			}
		}
	}
}

// P12.2: objects of all numbers of bytes, alone, ahead of another one and behind it.
func TestWriteValues(t *testing.T) {
	for _, n := range lengths() {
		for _, value := range [][]byte{noise(n), make([]byte, n), bytes.Repeat([]byte{1}, n)} {
			o, other := api.Object{ID: uint8(n), Value: value}, api.Object{ID: 9, Value: []byte{8}}
			for kind := uint8(1); kind < 5; kind++ {
				for _, l := range [][]api.Object{{o}, {o, other}, {other, o}} {
					m := api.Msg{Code: 43, Mei: 14, Kind: kind, Level: 1, Objects: l}
					expectFormIs(t, n <= 255 && (kind < 4 || len(l) == 1), 1, m)
				}
			}
		}
	}
}

// P12.2: so many objects.
func TestWriteObjects(t *testing.T) {
	for _, n := range lengths() {
		for _, o := range []api.Object{{}, {ID: 1}, {ID: 255, Value: []byte{0}}, {ID: 1, Value: noise(9)}} {
			l := slices.Repeat([]api.Object{o}, n)
			for kind := uint8(1); kind < 5; kind++ {
				expectFormIs(t, kind < 4 && n <= 255 || n == 1, 1, api.Msg{Code: 43, Mei: 14, Kind: kind, Level: 1, Objects: l})
				expectFormIs(t, n == 0, 0, api.Msg{Code: 43, Mei: 14, Kind: kind, Objects: l})
			}
			expectFormIs(t, n == 0, 1, api.Msg{Code: 43, Mei: 13, Objects: l})
		}
	}
}

// P12.2, R1: very many objects that share one very long Value are refused without being written at length.
func TestWriteFar(t *testing.T) {
	value := make([]byte, 1<<24)
	few, many := slices.Repeat([]api.Object{{Value: value}}, 255), slices.Repeat([]api.Object{{Value: value}}, 1<<20)
	for dir := range 2 {
		for _, l := range [][]api.Object{few, many} {
			for kind := uint8(1); kind < 5; kind++ {
				expectNone(t, "far", dir, api.Msg{Code: 43, Mei: 14, Kind: kind, Level: uint8(dir), Objects: l})
			}
			expectNone(t, "far", dir, api.Msg{Code: 43, Mei: 13, Data: value, Objects: l})
		}
	}
}

// P12.2, R4: lists that are nil and lists that are empty are the same, within an object too.
func TestEmptyLists(t *testing.T) {
	for _, s := range samples() {
		for _, empty := range []func(m *api.Msg){
			func(m *api.Msg) { m.Words = []uint16{} },
			func(m *api.Msg) { m.Bits = []bool{} },
			func(m *api.Msg) { m.Recs = make([]api.Rec, 0, 3) },
			func(m *api.Msg) {
				if len(m.Data) == 0 {
					m.Data = make([]byte, 0, 3)
				}
			},
			func(m *api.Msg) {
				if len(m.Objects) == 0 {
					m.Objects = make([]api.Object, 0, 3)
				}
			},
			func(m *api.Msg) {
				m.Objects = slices.Clone(m.Objects)
				for i, o := range m.Objects {
					if len(o.Value) == 0 && i%2 == 0 {
						m.Objects[i].Value = make([]byte, 0, 3)
					}
				}
			},
			func(m *api.Msg) {
				m.Objects = slices.Clone(m.Objects)
				for i, o := range m.Objects {
					if len(o.Value) == 0 {
						m.Objects[i].Value = nil
					}
				}
			},
		} {
			m := s.m
			empty(&m)
			expectWrite(t, s.dir, m, true, s.b)
		}
	}
	expectWrite(t, 1, api.Msg{Code: 43, Mei: 14, Kind: 4, Level: 1, Objects: []api.Object{{ID: 7, Value: []byte{}}}}, true, []byte{14, 4, 1, 0, 0, 1, 7, 0})
	expectWrite(t, 1, api.Msg{Code: 43, Mei: 14, Kind: 4, Level: 1, Objects: []api.Object{{ID: 7}}}, true, []byte{14, 4, 1, 0, 0, 1, 7, 0})
}

// P12.3: unlike bytes are unlike messages, and unlike messages have unlike bytes, of one direction.
func TestOneToOne(t *testing.T) {
	t.Parallel()
	for dir := range 2 {
		byMessage, byBytes := map[string]string{}, map[string]string{}
		for _, b := range candidates() {
			m, e := Parse(dir, 43, b)
			if e != api.OK {
				continue
			}
			w, e := Write(dir, m)
			if e != api.OK {
				t.Fatalf("Write(%d, %v) = %d", dir, m, e)
			}
			told := fmt.Sprint(m)
			if was, ok := byMessage[told]; ok && was != string(b) {
				t.Fatalf("%s is told of %v and of %v", told, []byte(was), b)
			}
			if was, ok := byBytes[string(w)]; ok && was != told {
				t.Fatalf("%v is written of %s and of %s", w, was, told)
			}
			byMessage[told], byBytes[string(w)] = string(b), told
		}
		if len(byMessage) < 1000 || len(byMessage) != len(byBytes) {
			t.Errorf("%d: %d messages, %d lists of bytes", dir, len(byMessage), len(byBytes))
		}
	}
}

// candidates is bytes of which some are one another's neighbours: the samples, with each of their bytes changed, all requests, and the same bytes shared out among objects in other ways.
func candidates() [][]byte {
	var all [][]byte
	for _, s := range samples() {
		all = append(all, s.b)
		for i := range min(len(s.b), 100) {
			for _, x := range []byte{1, 2, 3, 4, 128} {
				b := slices.Clone(s.b)
				b[i] ^= x
				all = append(all, b)
			}
		}
	}
	for kind := range 6 {
		for next := range 256 {
			all = append(all, []byte{14, byte(kind), byte(next)})
		}
	}
	for a := range 6 {
		for b := range 6 {
			for c := range 6 {
				zeros := make([]byte, a+b+c)
				for k := range 5 {
					all = append(all, response(1, 1, 0, 0, k, slices.Concat(object(0, zeros[:a]), object(0, zeros[:b]), object(0, zeros[:c]))...))
				}
				all = append(all, response(1, 1, 0, 0, 2, slices.Concat(object(0, zeros[:a]), object(0, zeros[:b]))...), response(1, 1, 0, 0, 1, object(byte(a), zeros[:b])...))
			}
		}
	}
	return all
}

// P12.2, P12.3: messages of many mixed fields, against the rows told in another way; no two of them have the same bytes.
func TestMixedMessages(t *testing.T) {
	t.Parallel()
	numbers := []uint8{0, 0, 1, 1, 2, 3, 4, 5, 13, 14, 128, 129, 255}
	for dir := range 2 {
		written := map[string]api.Msg{}
		chances := noise(16 * 200000)
		for i := range 200000 {
			x := chances[16*i : 16*i+16]
			of := func(j int) uint8 { return numbers[int(x[j])%len(numbers)] }
			m := api.Msg{Code: 43, Mei: 14 - x[0]%8/7, Kind: of(1), Next: of(4)}
			if x[5]%4 == 0 {
				m.Data = noise(int(x[6]) % 4)
			}
			if dir == 1 || x[7]%8 == 0 {
				m.Level, m.More = of(2), of(3)
			}
			for j := range int(x[8]) % 4 {
				m.Objects = append(m.Objects, api.Object{ID: of(9 + j), Value: noise(int(x[12+j]) % 4)})
			}
			if m.Mei == 13 && x[15]%8 > 0 || dir == 0 && x[15]%4 > 0 {
				m.Objects = nil
			}
			if m.Mei == 13 && x[15]%2 > 0 {
				m.Kind, m.Level, m.More, m.Next = 0, 0, 0, 0
			}
			expectForm(t, dir, m)
			b, e := Write(dir, m)
			if e != api.OK {
				continue
			}
			if was, ok := written[string(b)]; ok && !code.Same(was, m) {
				t.Fatalf("Write(%d, ..) of %v and of %v = %v", dir, was, m, b)
			}
			written[string(b)] = m
		}
		if len(written) < 30 {
			t.Errorf("%d: %d messages were written", dir, len(written))
		}
	}
}

// R6: what a call answers doesn't hang on calls ahead of it.
func TestAgain(t *testing.T) {
	for range 10 {
		for _, s := range samples() {
			expect(t, s.dir, 43, s.b, s.m, api.OK)
			expectModel(t, s.dir, 43, append(slices.Clone(s.b), 0))
			expectModel(t, s.dir, 43, s.b[:1])
		}
	}
}

// roomy is the same message, with something behind the end of each list, in the list's room.
func roomy(m api.Msg) api.Msg {
	l := append(slices.Clone(m.Objects), api.Object{ID: 91, Value: []byte{92}}, api.Object{ID: 93})
	for i := range m.Objects {
		n := len(l[i].Value)
		l[i].Value = append(slices.Clone(l[i].Value), 94, 95, 96)[:n]
	}
	m.Objects = l[:len(m.Objects)]
	m.Data = append(slices.Clone(m.Data), 97, 98, 99)[:len(m.Data)]
	return m
}

// lists is a copy of all that a message's lists have, behind their ends too.
type lists struct {
	data    []byte
	objects []api.Object
}

// all is that copy.
func all(m api.Msg) lists {
	l := lists{slices.Clone(m.Data[:cap(m.Data)]), slices.Clone(m.Objects[:cap(m.Objects)])}
	for i, o := range l.objects {
		l.objects[i].Value = slices.Clone(o.Value[:cap(o.Value)])
	}
	return l
}

// spoil changes all that a message's lists have, behind their ends too.
func spoil(m api.Msg) {
	turn(m.Data)
	l := m.Objects[:cap(m.Objects)]
	for i, o := range l {
		turn(o.Value)
		l[i] = api.Object{ID: o.ID ^ 255}
	}
}

// turn changes all bytes, behind their end too.
func turn(b []byte) {
	b = b[:cap(b)]
	for i := range b {
		b[i] ^= 255
	}
}

// R5: Parse doesn't change the bytes, nor what is behind their end, and its answer doesn't hang on them, nor on another one.
func TestParseMemory(t *testing.T) {
	for _, s := range samples() {
		room := append(slices.Clone(s.b), 91, 92, 93)
		was := slices.Clone(room)
		m, _ := Parse(s.dir, 43, room[:len(s.b)])
		if !bytes.Equal(room, was) {
			t.Fatalf("Parse(%d, 43, %v) changes what was handed in to %v", s.dir, was, room)
		}
		other, _ := Parse(s.dir, 43, room[:len(s.b)])
		turn(room)
		if !code.Same(m, s.m) {
			t.Fatalf("Parse(%d, 43, %v) hangs on the bytes that were handed in", s.dir, s.b)
		}
		now := slices.Clone(room)
		spoil(m)
		if !bytes.Equal(room, now) {
			t.Fatalf("Parse(%d, 43, %v) tells lists that share memory with what was handed in", s.dir, s.b)
		}
		if again, e := Parse(s.dir, 43, s.b); e != api.OK || !code.Same(other, s.m) || !code.Same(again, s.m) {
			t.Fatalf("answers of Parse(%d, 43, %v) share memory", s.dir, s.b)
		}
	}
}

// R5: no two objects of one answer share memory, behind the ends of their Values too.
func TestObjectsMemory(t *testing.T) {
	for _, s := range samples() {
		for i, o := range s.m.Objects {
			m, _ := Parse(s.dir, 43, s.b)
			turn(m.Objects[i].Value)
			_ = append(m.Objects[i].Value, 1, 2, 3)
			m.Objects[i].Value = o.Value
			if !code.Same(m, s.m) {
				t.Fatalf("objects of Parse(%d, 43, %v) share memory", s.dir, s.b)
			}
		}
	}
}

// R5: Write doesn't change the message, nor what is behind its lists' ends, and its answer doesn't hang on it, nor on another one.
func TestWriteMemory(t *testing.T) {
	for _, s := range samples() {
		m := roomy(s.m)
		was := all(m)
		b, _ := Write(s.dir, m)
		if !reflect.DeepEqual(all(m), was) {
			t.Fatalf("Write(%d, %v) changes what was handed in", s.dir, s.m)
		}
		other, _ := Write(s.dir, m)
		spoil(m)
		if !bytes.Equal(b, s.b) {
			t.Fatalf("Write(%d, %v) hangs on what was handed in", s.dir, s.m)
		}
		was = all(m)
		clear(b[:cap(b)])
		if !reflect.DeepEqual(all(m), was) {
			t.Fatalf("Write(%d, %v) tells bytes that share memory with what was handed in", s.dir, s.m)
		}
		if again, e := Write(s.dir, s.m); e != api.OK || !bytes.Equal(other, s.b) || !bytes.Equal(again, s.b) {
			t.Fatalf("answers of Write(%d, %v) share memory", s.dir, s.m)
		}
	}
}

// R5: with an error too, nothing that was handed in is changed.
func TestErrorsChangeNothing(t *testing.T) {
	for _, b := range anyBytes() {
		for dir := -1; dir < 3; dir++ {
			for c := range 256 {
				was := slices.Clone(b)
				Parse(dir, uint8(c), b)
				if !bytes.Equal(b, was) {
					t.Fatalf("Parse(%d, %d, %v) changes what was handed in to %v", dir, c, was, b)
				}
			}
		}
	}
	for _, s := range samples() {
		for dir := -1; dir < 3; dir++ {
			m := roomy(s.m)
			m.Addr = 1
			was := all(m)
			expectNone(t, "too much", dir, m)
			if !reflect.DeepEqual(all(m), was) {
				t.Fatalf("Write(%d, %v) changes what was handed in", dir, s.m)
			}
		}
	}
}
