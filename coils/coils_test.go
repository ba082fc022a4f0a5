package coils

import (
	"bytes"
	"fmt"
	"math"
	"reflect"
	"slices"
	"testing"

	"busbar/api"
	"busbar/code"
)

// some is n bytes that look like no pattern, the same ones each time.
func some(n int) []byte {
	b := make([]byte, n)
	x := uint32(n)*2654435761 + 1
	for i := range b {
		x = x*1664525 + 1013904223
		b[i] = byte(x >> 24)
	}
	return b
}

// flags is n bits that look like no pattern, the same ones each time.
func flags(n int) []bool {
	l := make([]bool, n)
	for i, x := range some(n) {
		l[i] = x >= 128
	}
	return l
}

// two is two numbers in four bytes.
func two(x, y int) []byte {
	return []byte{byte(x / 256), byte(x % 256), byte(y / 256), byte(y % 256)}
}

// packed is bits in bytes, by sums of what each is worth.
func packed(l []bool) []byte {
	var b []byte
	for eight := range slices.Chunk(l, 8) {
		sum, worth := 0, 1
		for _, bit := range eight {
			if bit {
				sum += worth
			}
			worth *= 2
		}
		b = append(b, byte(sum))
	}
	return b
}

// setting is the bytes of code 15's request for l from addr on.
func setting(addr int, l []bool) []byte {
	data := packed(l)
	return slices.Concat(two(addr, len(l)), []byte{byte(len(data))}, data)
}

// telling is the bytes of an answer of codes 1 and 2.
func telling(data []byte) []byte { return append([]byte{byte(len(data))}, data...) }

// directions that are none.
func beside() []int {
	return []int{-1, 2, 3, -2, 255, 256, 257, 65536, 65537, 1 << 32, 1<<32 + 1, math.MinInt, math.MinInt + 1, math.MaxInt}
}

// model is the chapter's table told by lengths and places of bytes, not by fields that are read.
func model(dir int, c uint8, b []byte) (api.Msg, api.Errno) {
	if dir != 0 && dir != 1 {
		return api.Msg{}, api.ErrArg
	}
	m := api.Msg{Code: c}
	e := api.ErrCode
	switch c {
	case 1, 2:
		if dir == 0 {
			e = modelPlaces(&m, b, 2000, len(b) > 4)
		} else {
			e = modelData(&m, b)
		}
	case 5:
		e = modelOne(&m, b)
	case 15:
		e = modelPlaces(&m, b, 1968, dir == 1 && len(b) > 4)
		if dir == 0 && e == api.OK {
			e = modelBits(&m, b)
		}
	}
	if e != api.OK {
		return api.Msg{}, e
	}
	return m, api.OK
}

func modelPlaces(m *api.Msg, b []byte, most int, long bool) api.Errno {
	if len(b) < 4 {
		return api.ErrShort
	}
	addr, count := int(b[0])*256+int(b[1]), int(b[2])*256+int(b[3])
	m.Addr, m.Count = uint16(addr), uint16(count)
	switch {
	case count == 0 || count > most:
		return api.ErrCount
	case addr+count > 65536:
		return api.ErrAddr
	case long:
		return api.ErrLong
	}
	return api.OK
}

func modelData(m *api.Msg, b []byte) api.Errno {
	switch {
	case len(b) == 0:
		return api.ErrShort
	case b[0] == 0 || b[0] > 250:
		return api.ErrCount
	case len(b)-1 < int(b[0]):
		return api.ErrShort
	case len(b)-1 > int(b[0]):
		return api.ErrLong
	}
	m.Data = b[1:]
	return api.OK
}

func modelOne(m *api.Msg, b []byte) api.Errno {
	if len(b) < 4 {
		return api.ErrShort
	}
	m.Addr, m.Value = uint16(b[0])*256+uint16(b[1]), uint16(b[2])*256
	switch {
	case b[3] != 0 || b[2] != 0 && b[2] != 255:
		return api.ErrValue
	case len(b) > 4:
		return api.ErrLong
	}
	return api.OK
}

func modelBits(m *api.Msg, b []byte) api.Errno {
	count := int(m.Count)
	switch {
	case len(b) < 5:
		return api.ErrShort
	case int(b[4]) != (count+7)/8:
		return api.ErrCount
	case len(b)-5 < int(b[4]):
		return api.ErrShort
	}
	for i := range 8 * int(b[4]) {
		bit := b[5+i/8]&[]byte{1, 2, 4, 8, 16, 32, 64, 128}[i%8] != 0
		if i < count {
			m.Bits = append(m.Bits, bit)
		} else if bit {
			return api.ErrValue
		}
	}
	if len(b)-5 > int(b[4]) {
		return api.ErrLong
	}
	return api.OK
}

// expect asks Parse, and, of what is told, Write: of an error no message is told, of a message the same bytes are written.
func expect(t *testing.T, dir int, c uint8, b []byte, want api.Msg, e api.Errno) {
	t.Helper()
	got, gotE := Parse(dir, c, b)
	if gotE != e || !code.Same(got, want) {
		t.Fatalf("Parse(%d, %d, %v) = %v, %d, want %v, %d", dir, c, b, got, gotE, want, e)
	}
	if e != api.OK {
		return
	}
	if back, backE := Write(dir, got); backE != api.OK || !bytes.Equal(back, b) {
		t.Fatalf("Write(%d, %v) = %v, %d, want %v", dir, got, back, backE, b)
	}
}

// expectModel is expect of what model tells.
func expectModel(t *testing.T, dir int, c uint8, b []byte) {
	t.Helper()
	want, e := model(dir, c, b)
	expect(t, dir, c, b, want, e)
}

// expectError is expect of an error, and no message.
func expectError(t *testing.T, dir int, c uint8, b []byte, e api.Errno) {
	t.Helper()
	expect(t, dir, c, b, api.Msg{}, e)
}

// expectNone asks that Write tells ErrArg, and no bytes.
func expectNone(t *testing.T, what string, dir int, m api.Msg) {
	t.Helper()
	if b, e := Write(dir, m); e != api.ErrArg || len(b) != 0 {
		t.Errorf("%s: Write(%d, %v) = %v, %d, want none and ErrArg", what, dir, m, b, e)
	}
}

// sample is bytes of a row of the table, and the message that they are.
type sample struct {
	dir int
	b   []byte
	m   api.Msg
}

// samples is messages of every row of the table, of every code and direction, at the edges of their fields.
func samples() []sample {
	var l []sample
	for _, c := range []uint8{1, 2} {
		for _, x := range [][2]int{{19, 19}, {0, 1}, {0, 2000}, {65535, 1}, {63536, 2000}, {256, 255}, {65279, 256}} {
			l = append(l, sample{0, two(x[0], x[1]), api.Msg{Code: c, Addr: uint16(x[0]), Count: uint16(x[1])}})
		}
		for _, n := range []int{1, 2, 3, 127, 128, 249, 250} {
			l = append(l, sample{1, telling(some(n)), api.Msg{Code: c, Data: some(n)}})
		}
		l = append(l, sample{1, []byte{1, 0}, api.Msg{Code: c, Data: []byte{0}}})
	}
	for dir := range 2 {
		for _, x := range [][2]int{{172, 65280}, {172, 0}, {0, 0}, {0, 65280}, {65535, 0}, {65535, 65280}, {65280, 0}} {
			l = append(l, sample{dir, two(x[0], x[1]), api.Msg{Code: 5, Addr: uint16(x[0]), Value: uint16(x[1])}})
		}
	}
	for _, x := range [][2]int{{19, 10}, {0, 1}, {0, 1968}, {65535, 1}, {63568, 1968}, {7, 8}, {7, 9}, {7, 1961}, {65520, 16}, {300, 257}} {
		m := api.Msg{Code: 15, Addr: uint16(x[0]), Count: uint16(x[1])}
		l = append(l, sample{1, two(x[0], x[1]), m})
		for _, set := range [][]bool{flags(x[1]), make([]bool, x[1]), slices.Repeat([]bool{true}, x[1])} {
			m.Bits = set
			l = append(l, sample{0, setting(x[0], set), m})
		}
	}
	return l
}

// The chapter's examples, told field by field.
func TestExamples(t *testing.T) {
	expect(t, api.Request, 1, []byte{0, 19, 0, 19}, api.Msg{Code: 1, Addr: 19, Count: 19}, api.OK)
	ten := []bool{true, false, true, true, false, false, true, true, true, false}
	expect(t, api.Request, 15, []byte{0, 19, 0, 10, 2, 205, 1}, api.Msg{Code: 15, Addr: 19, Count: 10, Bits: ten}, api.OK)
	expectError(t, api.Request, 1, []byte{255, 255, 0, 2}, api.ErrAddr)
}

// P8.1: directions beside both are ErrArg, whatever the code and the bytes are.
func TestParseDirection(t *testing.T) {
	for _, dir := range beside() {
		for c := range 256 {
			for _, b := range [][]byte{nil, {0}, {0, 19, 0, 19}, {1, 1}, {0, 19, 0, 10, 2, 205, 1}, {0, 0, 0, 0}, some(300)} {
				expectError(t, dir, uint8(c), b, api.ErrArg)
			}
		}
	}
}

// P8.1: every code that is none of 1, 2, 5 and 15 is ErrCode, whatever the bytes are.
func TestParseCode(t *testing.T) {
	for dir := range 2 {
		for c := range 256 {
			if c == 1 || c == 2 || c == 5 || c == 15 {
				continue
			}
			for _, b := range [][]byte{nil, {0}, {0, 19, 0, 19}, {1, 1}, {0, 19, 0, 10, 2, 205, 1}, {0, 0, 0, 0}, some(300)} {
				expectError(t, dir, uint8(c), b, api.ErrCode)
			}
		}
	}
}

// P8.1, P8.2: messages of each row of the table, both ways.
func TestSamples(t *testing.T) {
	for _, s := range samples() {
		expect(t, s.dir, s.m.Code, s.b, s.m, api.OK)
	}
}

// P8.1: each form cut off at each of its bytes is ErrShort; with bytes more, whatever they are, ErrLong.
func TestCutAndLong(t *testing.T) {
	for _, s := range samples() {
		for n := range len(s.b) {
			expectError(t, s.dir, s.m.Code, s.b[:n], api.ErrShort)
		}
		for _, more := range [][]byte{{0}, {1}, {255}, {0, 0}, some(300)} {
			expectError(t, s.dir, s.m.Code, append(slices.Clone(s.b), more...), api.ErrLong)
		}
	}
}

// P8.1: a rule that is broken counts ahead of what is too short or too long behind it, and behind what is too short ahead of it.
func TestFirstCounts(t *testing.T) {
	for _, x := range []struct {
		dir int
		c   uint8
		b   []byte
		at  int // of so many bytes, the rule's field is read
		e   api.Errno
	}{
		{0, 1, two(19, 0), 4, api.ErrCount}, {0, 2, two(19, 2001), 4, api.ErrCount}, {0, 1, two(65535, 2), 4, api.ErrAddr}, {0, 2, two(65535, 2001), 4, api.ErrCount},
		{1, 1, []byte{0}, 1, api.ErrCount}, {1, 2, []byte{251}, 1, api.ErrCount}, {1, 1, append([]byte{251}, some(251)...), 1, api.ErrCount}, {1, 2, []byte{0, 1}, 1, api.ErrCount},
		{0, 5, two(19, 1), 4, api.ErrValue}, {1, 5, two(19, 65281), 4, api.ErrValue},
		{1, 15, two(19, 0), 4, api.ErrCount}, {1, 15, two(19, 1969), 4, api.ErrCount}, {1, 15, two(65535, 10), 4, api.ErrAddr},
		{0, 15, append(two(19, 0), 0), 4, api.ErrCount}, {0, 15, append(two(19, 1969), 247), 4, api.ErrCount}, {0, 15, append(two(65535, 10), 2, 205, 1), 4, api.ErrAddr}, {0, 15, append(two(65535, 10), 3, 205, 5), 4, api.ErrAddr},
		{0, 15, append(two(19, 10), 1, 205), 5, api.ErrCount}, {0, 15, append(two(19, 10), 3, 205, 5, 0), 5, api.ErrCount}, {0, 15, append(two(19, 10), 0), 5, api.ErrCount},
		{0, 15, append(two(19, 10), 2, 205, 5), 7, api.ErrValue},
	} {
		for n := range len(x.b) + 1 {
			e := api.ErrShort
			if n >= x.at {
				e = x.e
			}
			expectError(t, x.dir, x.c, x.b[:n], e)
		}
		for _, more := range [][]byte{{0}, {2}, some(300)} {
			expectError(t, x.dir, x.c, append(slices.Clone(x.b), more...), x.e)
		}
	}
}

// P8.1: both sides of each bound of Count, with and without a place beyond the last.
func TestCountBounds(t *testing.T) {
	for _, x := range []struct {
		addr, count int
		read, set   api.Errno // of codes 1 and 2; of code 15
	}{
		{0, 0, api.ErrCount, api.ErrCount}, {65535, 0, api.ErrCount, api.ErrCount},
		{0, 1, api.OK, api.OK}, {65535, 1, api.OK, api.OK}, {65535, 2, api.ErrAddr, api.ErrAddr}, {65534, 2, api.OK, api.OK},
		{0, 1968, api.OK, api.OK}, {63568, 1968, api.OK, api.OK}, {63569, 1968, api.ErrAddr, api.ErrAddr},
		{0, 1969, api.OK, api.ErrCount}, {63567, 1969, api.OK, api.ErrCount}, {63568, 1969, api.ErrAddr, api.ErrCount},
		{0, 2000, api.OK, api.ErrCount}, {63536, 2000, api.OK, api.ErrCount}, {63537, 2000, api.ErrAddr, api.ErrCount},
		{0, 2001, api.ErrCount, api.ErrCount}, {63536, 2001, api.ErrCount, api.ErrCount}, {65535, 2001, api.ErrCount, api.ErrCount},
		{0, 65535, api.ErrCount, api.ErrCount}, {1, 65535, api.ErrCount, api.ErrCount}, {65535, 65535, api.ErrCount, api.ErrCount},
	} {
		want := api.Msg{Addr: uint16(x.addr), Count: uint16(x.count)}
		of := func(c uint8, e api.Errno, l []bool) api.Msg {
			if e != api.OK {
				return api.Msg{}
			}
			m := want
			m.Code, m.Bits = c, l
			return m
		}
		expect(t, 0, 1, two(x.addr, x.count), of(1, x.read, nil), x.read)
		expect(t, 0, 2, two(x.addr, x.count), of(2, x.read, nil), x.read)
		expect(t, 1, 15, two(x.addr, x.count), of(15, x.set, nil), x.set)
		l := flags(x.count)
		expect(t, 0, 15, setting(x.addr, l), of(15, x.set, l), x.set)
	}
}

// P8.1: every Count at some places, and every place at some Counts, of all forms that have both.
func TestEveryPlace(t *testing.T) {
	ask := func(addr, count int) {
		for _, c := range []uint8{1, 2} {
			expectModel(t, 0, c, two(addr, count))
		}
		expectModel(t, 1, 15, two(addr, count))
	}
	for x := range 65536 {
		for _, addr := range []int{0, 63536} {
			ask(addr, x)
		}
		for _, count := range []int{1, 1968} {
			ask(x, count)
		}
	}
	for count := range 2100 {
		for _, addr := range []int{0, 19, 65536 - count, 65537 - count} {
			expectModel(t, 0, 15, setting(addr&65535, flags(count)))
		}
	}
}

// P8.1: every n of an answer of codes 1 and 2, with a byte too few, just enough, and one too many.
func TestEveryNumberOfBytes(t *testing.T) {
	for _, c := range []uint8{1, 2} {
		for n := range 256 {
			data := some(n)
			e, want := api.OK, api.Msg{Code: c, Data: data}
			if n == 0 || n > 250 {
				e, want = api.ErrCount, api.Msg{}
			}
			b := telling(data)
			expect(t, 1, c, b, want, e)
			if e == api.OK {
				expectError(t, 1, c, b[:n], api.ErrShort)
				expectError(t, 1, c, append(b, 0), api.ErrLong)
			}
		}
	}
}

// P8.1: every n of code 15's request that isn't Many of Count is ErrCount, with as many bytes as n, or as many as Many.
func TestEveryNumberOfBytesToSet(t *testing.T) {
	for _, count := range []int{1, 7, 8, 9, 10, 16, 17, 255, 256, 1960, 1961, 1967, 1968} {
		many := (count + 7) / 8
		for n := range 256 {
			for _, bytes := range []int{n, many} {
				b := slices.Concat(two(19, count), []byte{byte(n)}, make([]byte, bytes))
				if n == many {
					expect(t, 0, 15, b, api.Msg{Code: 15, Addr: 19, Count: uint16(count), Bits: make([]bool, count)}, api.OK)
				} else {
					expectError(t, 0, 15, b, api.ErrCount)
				}
			}
		}
	}
}

// P8.1: every Value of code 5, in both directions.
func TestEveryValue(t *testing.T) {
	for dir := range 2 {
		for x := range 65536 {
			for _, addr := range []int{172, 65535} {
				if x == 0 || x == 65280 {
					expect(t, dir, 5, two(addr, x), api.Msg{Code: 5, Addr: uint16(addr), Value: uint16(x)}, api.OK)
				} else {
					expectError(t, dir, 5, two(addr, x), api.ErrValue)
				}
			}
			expect(t, dir, 5, two(x, 0), api.Msg{Code: 5, Addr: uint16(x)}, api.OK)
		}
	}
}

// P8.1: each bit of code 15's request alone: the one of Bits that it is, or, beyond Count, ErrValue, whether bytes are left or not.
func TestEveryBit(t *testing.T) {
	for _, count := range []int{1, 2, 7, 8, 9, 10, 15, 16, 17, 1961, 1967, 1968} {
		many := (count + 7) / 8
		for i := range 8 * many {
			b := slices.Concat(two(19, count), []byte{byte(many)}, make([]byte, many))
			b[5+i/8] = 1 << (i % 8)
			if i >= count {
				expectError(t, 0, 15, b, api.ErrValue)
				expectError(t, 0, 15, append(b, 0), api.ErrValue)
				continue
			}
			m := api.Msg{Code: 15, Addr: 19, Count: uint16(count), Bits: make([]bool, count)}
			m.Bits[i] = true
			expect(t, 0, 15, b, m, api.OK)
		}
	}
}

// P8.1: bytes of all lengths that look like no pattern, and samples with a byte changed, against the table told in another way.
func TestAgainstModel(t *testing.T) {
	for dir := range 2 {
		for _, c := range []uint8{1, 2, 5, 15} {
			expectModel(t, dir, c, nil)
			expectModel(t, dir, c, []byte{})
			for n := range 600 {
				expectModel(t, dir, c, some(n))
				expectModel(t, dir, c, make([]byte, n))
			}
		}
	}
	for _, s := range samples() {
		for i := range min(len(s.b), 12) {
			b := slices.Clone(s.b)
			for x := range 256 {
				b[i] = byte(x)
				expectModel(t, 0, s.m.Code, b)
				expectModel(t, 1, s.m.Code, b)
			}
		}
	}
}

// setField gives a field of a message a value that isn't zero, the smallest or the greatest of its kind.
func setField(v reflect.Value, greatest bool) {
	switch v.Kind() {
	case reflect.Uint8, reflect.Uint16:
		v.SetUint(1)
		if greatest {
			v.SetUint(1<<v.Type().Bits() - 1)
		}
	case reflect.Slice:
		n := 1
		if greatest {
			n = 70000
		}
		v.Set(reflect.MakeSlice(v.Type(), n, n))
	default:
		panic("the tests know no field of kind " + v.Kind().String())
	}
}

// named is the fields that each row's form has, by direction and code.
func named(dir int, c uint8) []string {
	switch {
	case c == 5:
		return []string{"Code", "Addr", "Value"}
	case c == 15 && dir == 0:
		return []string{"Code", "Addr", "Count", "Bits"}
	case c == 15 || dir == 0:
		return []string{"Code", "Addr", "Count"}
	}
	return []string{"Code", "Data"}
}

// P8.2: a field set that the form does not name: each field of api.Msg by itself, of each row.
func TestWriteOtherFields(t *testing.T) {
	for _, s := range samples() {
		for i := range reflect.TypeFor[api.Msg]().NumField() {
			name := reflect.TypeFor[api.Msg]().Field(i).Name
			if slices.Contains(named(s.dir, s.m.Code), name) {
				continue
			}
			for _, greatest := range []bool{false, true} {
				m := s.m
				setField(reflect.ValueOf(&m).Elem().Field(i), greatest)
				expectNone(t, name, s.dir, m)
			}
		}
	}
}

// P8.2, R1: a message of which one field alone is set, beside its code, or not even that.
func TestWriteOneField(t *testing.T) {
	for dir := range 2 {
		for c := range 256 {
			for i := 1; i < reflect.TypeFor[api.Msg]().NumField(); i++ {
				for _, greatest := range []bool{false, true} {
					m := api.Msg{Code: uint8(c)}
					setField(reflect.ValueOf(&m).Elem().Field(i), greatest)
					name := reflect.TypeFor[api.Msg]().Field(i).Name
					switch {
					case c == 5 && name == "Addr", (c == 1 || c == 2) && dir == 0 && name == "Count" && !greatest,
						c == 15 && dir == 1 && name == "Count" && !greatest, (c == 1 || c == 2) && dir == 1 && name == "Data" && !greatest:
						if b, e := Write(dir, m); e != api.OK {
							t.Errorf("Write(%d, %v) = %v, %d, want bytes", dir, m, b, e)
						}
					default:
						expectNone(t, name, dir, m)
					}
				}
			}
		}
	}
}

// P8.2: every code without a field, every other code with a sample's fields, and a direction beside both.
func TestWriteCodeAndDirection(t *testing.T) {
	for c := range 256 {
		for dir := range 2 {
			if c != 5 {
				expectNone(t, "no field", dir, api.Msg{Code: uint8(c)})
			}
		}
	}
	for _, s := range samples() {
		for _, dir := range beside() {
			expectNone(t, "direction", dir, s.m)
		}
		for c := range 256 {
			if c != 1 && c != 2 && c != 5 && c != 15 {
				m := s.m
				m.Code = uint8(c)
				expectNone(t, "code", s.dir, m)
			}
		}
	}
}

// P8.2: a message in the other direction is written just if it has a form there.
func TestWriteOtherDirection(t *testing.T) {
	for _, s := range samples() {
		other := 1 - s.dir
		if s.m.Code == 5 {
			expect(t, other, 5, s.b, s.m, api.OK)
		} else {
			expectNone(t, "the other direction", other, s.m)
		}
	}
}

// P8.2: numbers beyond the bounds of the forms.
func TestWriteBounds(t *testing.T) {
	for x := range 65536 {
		n := uint16(x)
		for _, addr := range []uint16{0, 63568} {
			within := int(addr)+x <= 65536
			for _, c := range []uint8{1, 2} {
				expectWrite(t, 0, api.Msg{Code: c, Addr: addr, Count: n}, x >= 1 && x <= 2000 && within, two(int(addr), x))
			}
			expectWrite(t, 1, api.Msg{Code: 15, Addr: addr, Count: n}, x >= 1 && x <= 1968 && within, two(int(addr), x))
			for dir := range 2 {
				expectWrite(t, dir, api.Msg{Code: 5, Addr: addr, Value: n}, x == 0 || x == 65280, two(int(addr), x))
			}
		}
	}
}

// expectWrite asks for those bytes of a message that may be, and none of another one.
func expectWrite(t *testing.T, dir int, m api.Msg, may bool, b []byte) {
	t.Helper()
	if !may {
		expectNone(t, "may not be", dir, m)
	} else if got, e := Write(dir, m); e != api.OK || !bytes.Equal(got, b) {
		t.Errorf("Write(%d, %v) = %v, %d, want %v", dir, m, got, e, b)
	}
}

// P8.2: Data of all lengths, those whose number has the lowest eight bits of another one among them.
func TestWriteData(t *testing.T) {
	for _, c := range []uint8{1, 2} {
		for n := range 1100 {
			data := some(n)
			expectWrite(t, 1, api.Msg{Code: c, Data: data}, n >= 1 && n <= 250, telling(data))
		}
		for _, n := range []int{65536, 65537, 65536 + 250, 1 << 20} {
			expectNone(t, "long Data", 1, api.Msg{Code: c, Data: make([]byte, n)})
		}
	}
}

// P8.2: Bits of all lengths, with the Count that they have, and with others: one more, one less, the same number of bytes, the same lowest bits, none.
func TestWriteBits(t *testing.T) {
	for n := range 2100 {
		l := flags(n)
		m := api.Msg{Code: 15, Addr: 19, Count: uint16(n), Bits: l}
		expectWrite(t, 0, m, n >= 1 && n <= 1968, setting(19, l))
		for _, zero := range []bool{false, true} {
			if zero {
				m.Bits = make([]bool, n)
			}
			for _, count := range []int{0, n - 1, n + 1, n - 7, n + 7, n - 8, n + 8, n ^ 256, n ^ 2048, n + 32768} {
				if m.Count = uint16(count); int(m.Count) != n {
					expectNone(t, "another Count", 0, m)
				}
			}
		}
	}
	for _, n := range []int{65536, 65537, 65546, 1 << 20, 1<<20 + 10} {
		expectNone(t, "long Bits", 0, api.Msg{Code: 15, Addr: 19, Count: uint16(n), Bits: make([]bool, n)})
		expectNone(t, "long Bits", 0, api.Msg{Code: 15, Addr: 19, Count: 10, Bits: make([]bool, n)})
	}
}

// P8.2, R4: lists that are nil and lists that are empty are the same.
func TestEmptyLists(t *testing.T) {
	for _, s := range samples() {
		m := s.m
		for i := range reflect.TypeFor[api.Msg]().NumField() {
			if f := reflect.ValueOf(&m).Elem().Field(i); f.Kind() == reflect.Slice && f.Len() == 0 {
				f.Set(reflect.MakeSlice(f.Type(), 0, 3))
			}
		}
		if b, e := Write(s.dir, m); e != api.OK || !bytes.Equal(b, s.b) {
			t.Errorf("Write(%d, %v) = %v, %d, want %v", s.dir, m, b, e, s.b)
		}
	}
	for _, c := range []uint8{1, 2} {
		expectNone(t, "no Data", 1, api.Msg{Code: c})
		expectNone(t, "no Data", 1, api.Msg{Code: c, Data: []byte{}})
	}
	for count := range 20 {
		expectNone(t, "no Bits", 0, api.Msg{Code: 15, Count: uint16(count)})
		expectNone(t, "no Bits", 0, api.Msg{Code: 15, Count: uint16(count), Bits: []bool{}})
	}
}

// P8.3: unlike bytes are unlike messages, and unlike messages have unlike bytes, of one code and direction.
func TestOneToOne(t *testing.T) {
	for dir := range 2 {
		for _, c := range []uint8{1, 2, 5, 15} {
			byMessage, byBytes := map[string]string{}, map[string]string{}
			for _, b := range candidates() {
				m, e := Parse(dir, c, b)
				if e != api.OK {
					continue
				}
				w, e := Write(dir, m)
				if e != api.OK {
					t.Fatalf("Write(%d, %v) = %d", dir, m, e)
				}
				told := fmt.Sprint(m)
				if was, ok := byMessage[told]; ok && was != string(b) {
					t.Fatalf("%s is told of %v and of %v", told, []byte(was), b)
				}
				if was, ok := byBytes[string(w)]; ok && was != told {
					t.Fatalf("%v is written of %s and of %s", w, was, told)
				}
				byMessage[told], byBytes[string(w)] = string(b), told
			}
			if len(byMessage) < 40 || len(byMessage) != len(byBytes) {
				t.Errorf("direction %d, code %d: %d messages, %d lists of bytes", dir, c, len(byMessage), len(byBytes))
			}
		}
	}
}

// candidates is bytes of which some are one another's neighbours: all short lists of some bytes, and the samples with each of their bytes changed.
func candidates() [][]byte {
	all := [][]byte{nil}
	for from := 0; len(all[from]) < 7; from++ {
		for _, x := range []byte{0, 1, 2, 255} {
			all = append(all, append(slices.Clone(all[from]), x))
		}
	}
	for _, s := range samples() {
		all = append(all, s.b)
		for i := range s.b {
			b := slices.Clone(s.b)
			b[i] ^= 1
			all = append(all, b)
		}
	}
	return all
}

// R5: Parse doesn't change the bytes, nor what is behind their end, and its answer doesn't hang on them.
func TestParseMemory(t *testing.T) {
	for _, s := range samples() {
		room := append(slices.Clone(s.b), 91, 92, 93)
		was := slices.Clone(room)
		m, _ := Parse(s.dir, s.m.Code, room[:len(s.b)])
		if !bytes.Equal(room, was) {
			t.Fatalf("Parse(%d, %d, %v) changes what was handed in to %v", s.dir, s.m.Code, was, room)
		}
		other, _ := Parse(s.dir, s.m.Code, s.b)
		for i := range room {
			room[i] ^= 255
		}
		if !code.Same(m, s.m) {
			t.Fatalf("Parse(%d, %d, %v) hangs on the bytes that were handed in", s.dir, s.m.Code, s.b)
		}
		spoil(m)
		if again, e := Parse(s.dir, s.m.Code, s.b); e != api.OK || !code.Same(other, s.m) || !code.Same(again, s.m) {
			t.Fatalf("answers of Parse(%d, %d, %v) share memory", s.dir, s.m.Code, s.b)
		}
	}
}

// spoil changes all that a message's lists have, behind their ends too.
func spoil(m api.Msg) {
	for i := range m.Data[:cap(m.Data)] {
		m.Data[:cap(m.Data)][i] ^= 255
	}
	l := m.Bits[:cap(m.Bits)]
	for i := range l {
		l[i] = !l[i]
	}
}

// R5: Write doesn't change the message, nor what is behind its lists' ends, and its answer doesn't hang on it.
func TestWriteMemory(t *testing.T) {
	for _, s := range samples() {
		data := append(slices.Clone(s.m.Data), 91, 92, 93)
		set := append(slices.Clone(s.m.Bits), true, false, true)
		m := s.m
		m.Data, m.Bits = data[:len(s.m.Data)], set[:len(s.m.Bits)]
		b, _ := Write(s.dir, m)
		if !bytes.Equal(data, append(slices.Clone(s.m.Data), 91, 92, 93)) || !slices.Equal(set, append(slices.Clone(s.m.Bits), true, false, true)) {
			t.Fatalf("Write(%d, %v) changes what was handed in", s.dir, s.m)
		}
		other, _ := Write(s.dir, s.m)
		spoil(m)
		if !bytes.Equal(b, s.b) {
			t.Fatalf("Write(%d, %v) hangs on what was handed in", s.dir, s.m)
		}
		clear(b[:cap(b)])
		if again, e := Write(s.dir, s.m); e != api.OK || !bytes.Equal(other, s.b) || !bytes.Equal(again, s.b) {
			t.Fatalf("answers of Write(%d, %v) share memory", s.dir, s.m)
		}
	}
}

// R5: with an error too, nothing that was handed in is changed.
func TestErrorsChangeNothing(t *testing.T) {
	for _, b := range [][]byte{{0, 19, 0, 10, 2, 205, 5}, {0, 19, 0, 10, 3, 205, 1, 0}, {251, 1, 2, 3}, {0, 19, 0, 19, 9}, {0, 19, 1}} {
		for dir := -1; dir < 3; dir++ {
			for c := range 256 {
				was := slices.Clone(b)
				Parse(dir, uint8(c), b)
				if !bytes.Equal(b, was) {
					t.Fatalf("Parse(%d, %d, %v) changes what was handed in to %v", dir, c, was, b)
				}
			}
		}
	}
	m := api.Msg{Code: 15, Addr: 19, Count: 9, Bits: flags(10), Data: some(10), Words: []uint16{1}}
	Write(0, m)
	Write(1, m)
	if m.Count != 9 || !slices.Equal(m.Bits, flags(10)) || !bytes.Equal(m.Data, some(10)) || m.Words[0] != 1 {
		t.Errorf("Write changes what was handed in to %v", m)
	}
}
