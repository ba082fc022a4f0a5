package refusal

import (
	"bytes"
	"fmt"
	"reflect"
	"slices"
	"testing"

	"busbar/api"
	"busbar/code"
)

// noise is n bytes that look like no pattern, the same ones each time.
func noise(n int) []byte {
	b := make([]byte, n)
	x := uint32(n)*2654435761 + 1
	for i := range b {
		x = x*1664525 + 1013904223
		b[i] = byte(x >> 24)
	}
	return b
}

// asks is all public codes, told one by one.
func asks() []int {
	return []int{1, 2, 3, 4, 5, 6, 7, 8, 11, 12, 15, 16, 17, 20, 21, 22, 23, 24, 43}
}

// whys is all reasons of a refusal, told one by one.
func whys() []int { return []int{1, 2, 3, 4, 5, 6, 8, 10, 11} }

// The numbers that may be.
func isAsk(x int) bool { return slices.Contains(asks(), x) }
func isWhy(x int) bool { return slices.Contains(whys(), x) }

// message is the message that has these two fields, and no others.
func message(ask, why int) api.Msg { return api.Msg{Code: uint8(ask), Fail: uint8(why)} }

// model is the chapter's promise told in numbers: the first error that it names.
func model(b []byte) (api.Msg, api.Errno) {
	for _, wrong := range []struct {
		holds bool
		e     api.Errno
	}{
		{len(b) == 0, api.ErrShort},
		{len(b) > 0 && !isAsk(number(b, 0)-128), api.ErrCode},
		{len(b) < 2, api.ErrShort},
		{len(b) > 1 && !isWhy(number(b, 1)), api.ErrValue},
		{len(b) > 2, api.ErrLong},
	} {
		if wrong.holds {
			return api.Msg{}, wrong.e
		}
	}
	return message(number(b, 0)-128, number(b, 1)), api.OK
}

// number is a byte of b, or 0 if there is none.
func number(b []byte, i int) int {
	if i >= len(b) {
		return 0
	}
	return int(b[i])
}

// expect asks Parse, and, of what is told, Write and Of: of an error no message is told, of a message the same bytes are written.
func expect(t *testing.T, b []byte, want api.Msg, e api.Errno) {
	t.Helper()
	got, gotE := Parse(b)
	if gotE != e || !code.Same(got, want) {
		t.Fatalf("Parse(%v) = %v, %d, want %v, %d", b[:min(len(b), 9)], got, gotE, want, e)
	}
	if e != api.OK {
		return
	}
	if back, backE := Write(got); backE != api.OK || !bytes.Equal(back, b) {
		t.Fatalf("Write(%v) = %v, %d, want %v", got, back, backE, b)
	}
	if same, sameE := Of(got.Code, got.Fail); sameE != api.OK || !code.Same(same, got) {
		t.Fatalf("Of(%d, %d) = %v, %d, want %v", got.Code, got.Fail, same, sameE, got)
	}
}

// expectError is expect of an error, and no message; and asks that the model tells it, as the test's own words do.
func expectError(t *testing.T, b []byte, e api.Errno) {
	t.Helper()
	if _, want := model(b); want != e {
		t.Fatalf("the tests' model tells %d of %v, not %d", want, b[:min(len(b), 9)], e)
	}
	expect(t, b, api.Msg{}, e)
}

// expectModel is expect of what model tells.
func expectModel(t *testing.T, b []byte) {
	t.Helper()
	want, e := model(b)
	expect(t, b, want, e)
}

// expectNone asks that Write tells ErrArg, and no bytes.
func expectNone(t *testing.T, what string, m api.Msg) {
	t.Helper()
	if b, e := Write(m); e != api.ErrArg || len(b) != 0 {
		t.Fatalf("%s: Write(code %d, fail %d, ..) = %v, %d, want none and ErrArg", what, m.Code, m.Fail, b, e)
	}
}

// expectNoneOf asks that Of tells ErrArg, and no message.
func expectNoneOf(t *testing.T, ask, why int) {
	t.Helper()
	if m, e := Of(uint8(ask), uint8(why)); e != api.ErrArg || !code.Same(m, api.Msg{}) {
		t.Fatalf("Of(%d, %d) = %v, %d, want the zero message and ErrArg", ask, why, m, e)
	}
}

// each calls then with each refusal that may be.
func each(then func(b []byte, m api.Msg)) {
	for _, ask := range asks() {
		for _, why := range whys() {
			then([]byte{byte(ask + 128), byte(why)}, message(ask, why))
		}
	}
}

// The chapter's example, and one at each end of the lists.
func TestExample(t *testing.T) {
	expect(t, []byte{131, 2}, api.Msg{Code: 3, Fail: 2}, api.OK)
	expect(t, []byte{129, 1}, api.Msg{Code: 1, Fail: 1}, api.OK)
	expect(t, []byte{171, 11}, api.Msg{Code: 43, Fail: 11}, api.OK)
	m, e := Of(3, 2)
	if e != api.OK || !code.Same(m, api.Msg{Code: 3, Fail: 2}) {
		t.Errorf("Of(3, 2) = %v, %d", m, e)
	}
}

// P13.1: nothing is too short, nil or empty.
func TestNothing(t *testing.T) {
	expectError(t, nil, api.ErrShort)
	expectError(t, []byte{}, api.ErrShort)
	expectError(t, make([]byte, 0, 9), api.ErrShort)
	// What is behind the end, in the list's room, is not there.
	expectError(t, []byte{131, 2}[:0], api.ErrShort)
	expectError(t, []byte{131, 2}[:1], api.ErrShort)
	expect(t, []byte{131, 2, 0}[:2], api.Msg{Code: 3, Fail: 2}, api.OK)
}

// P13.1: every first byte, alone.
func TestFirstByte(t *testing.T) {
	for x := range 256 {
		e := api.ErrCode
		if x >= 128 && isAsk(x-128) {
			e = api.ErrShort
		}
		expectError(t, []byte{byte(x)}, e)
	}
}

// P13.1: every first byte with every second one behind it, and with more bytes behind both.
func TestEveryTwoBytes(t *testing.T) {
	t.Parallel()
	told := 0
	for x := range 256 {
		for y := range 256 {
			b := []byte{byte(x), byte(y)}
			e, long := api.OK, api.ErrLong
			switch {
			case x < 128 || !isAsk(x-128):
				e, long = api.ErrCode, api.ErrCode
			case !isWhy(y):
				e, long = api.ErrValue, api.ErrValue
			}
			if e == api.OK {
				told++
				expect(t, b, message(x-128, y), api.OK)
			} else {
				expectError(t, b, e)
			}
			expectError(t, append(b, 0), long)
			expectError(t, append(b, byte(x), byte(y)), long)
			expectError(t, append(b, noise(3+y)...), long)
		}
	}
	if told != 19*9 {
		t.Errorf("%d refusals are told, want 171", told)
	}
}

// P13.1: every third byte, and very many of them, behind refusals and behind what is wrong already.
func TestEveryThirdByte(t *testing.T) {
	t.Parallel()
	each(func(b []byte, _ api.Msg) {
		for z := range 256 {
			expectError(t, append(slices.Clone(b), byte(z)), api.ErrLong)
		}
		for _, n := range []int{1, 2, 3, 250, 251, 252, 253, 254, 255, 256, 1000, 65534, 65536} {
			expectError(t, append(slices.Clone(b), make([]byte, n)...), api.ErrLong)
		}
	})
	for z := range 256 {
		expectError(t, []byte{131, 0, byte(z)}, api.ErrValue)
		expectError(t, []byte{131, 7, byte(z)}, api.ErrValue)
		expectError(t, []byte{3, 2, byte(z)}, api.ErrCode)
		expectError(t, []byte{128, 2, byte(z)}, api.ErrCode)
	}
}

// P13.1: what is wrong in all ways at once, cut off behind each byte: the first that the promise names counts.
func TestSeveralWrong(t *testing.T) {
	for _, x := range []struct {
		b []byte
		e api.Errno
	}{
		{[]byte{}, api.ErrShort},
		{[]byte{0}, api.ErrCode}, {[]byte{3}, api.ErrCode}, {[]byte{137}, api.ErrCode},
		{[]byte{0, 0}, api.ErrCode}, {[]byte{3, 2}, api.ErrCode}, {[]byte{3, 7}, api.ErrCode}, {[]byte{137, 0}, api.ErrCode}, {[]byte{255, 255}, api.ErrCode},
		{[]byte{0, 0, 0}, api.ErrCode}, {[]byte{3, 2, 1}, api.ErrCode}, {[]byte{137, 2, 1}, api.ErrCode}, {[]byte{172, 9, 9}, api.ErrCode},
		{[]byte{131}, api.ErrShort},
		{[]byte{131, 0}, api.ErrValue}, {[]byte{131, 7}, api.ErrValue}, {[]byte{131, 130}, api.ErrValue},
		{[]byte{131, 0, 0}, api.ErrValue}, {[]byte{131, 9, 2}, api.ErrValue}, {[]byte{171, 12, 0, 0, 0}, api.ErrValue},
		{[]byte{131, 2, 2}, api.ErrLong}, {[]byte{131, 2, 0}, api.ErrLong}, {[]byte{131, 2, 131, 2}, api.ErrLong}, {[]byte{131, 2, 255, 255}, api.ErrLong},
		{[]byte{2, 131}, api.ErrCode},
	} {
		expectError(t, x.b, x.e)
	}
}

// P13.1: bytes that look like no pattern, and refusals with each bit turned, against the promise told in another way.
func TestAgainstModel(t *testing.T) {
	t.Parallel()
	for n := range 600 {
		for _, b := range [][]byte{noise(n), make([]byte, n), bytes.Repeat([]byte{255}, n), bytes.Repeat([]byte{131}, n), append([]byte{131}, noise(n)...), append([]byte{131, 2}, noise(n)...)} {
			expectModel(t, b)
		}
	}
	each(func(b []byte, _ api.Msg) {
		for bit := range 16 {
			turned := slices.Clone(b)
			turned[bit/8] ^= 1 << (bit % 8)
			expectModel(t, turned)
			expectModel(t, append(turned, 0))
			expectModel(t, turned[:1])
		}
	})
}

// R1: very many bytes are taken, too.
func TestHuge(t *testing.T) {
	huge := make([]byte, 1<<24)
	expectError(t, huge, api.ErrCode)
	huge[0] = 131
	expectError(t, huge, api.ErrValue)
	huge[1] = 2
	expectError(t, huge, api.ErrLong)
}

// P13.2: Write and Of at every Code and every Fail: bytes just of a public code and a reason that there is.
func TestEveryCodeAndFail(t *testing.T) {
	t.Parallel()
	for ask := range 256 {
		for why := range 256 {
			m := message(ask, why)
			if !isAsk(ask) || !isWhy(why) {
				expectNone(t, "no refusal", m)
				expectNoneOf(t, ask, why)
				continue
			}
			want := []byte{byte(ask + 128), byte(why)}
			if b, e := Write(m); e != api.OK || !bytes.Equal(b, want) {
				t.Fatalf("Write(%v) = %v, %d, want %v", m, b, e, want)
			}
			if got, e := Of(uint8(ask), uint8(why)); e != api.OK || !code.Same(got, m) {
				t.Fatalf("Of(%d, %d) = %v, %d, want %v", ask, why, got, e, m)
			}
			expect(t, want, m, api.OK)
		}
	}
}

// P13.2: messages that are no refusals, told one by one.
func TestWriteNone(t *testing.T) {
	for what, l := range map[string][]api.Msg{
		"nothing":                         {{}},
		"no Fail":                         {{Code: 3}, {Code: 43}, {Code: 1}},
		"no Code":                         {{Fail: 2}, {Fail: 11}},
		"a Code that isn't public":        {{Code: 9, Fail: 2}, {Code: 13, Fail: 2}, {Code: 44, Fail: 2}, {Code: 127, Fail: 2}},
		"Bad alone":                       {{Code: 128, Fail: 2}},
		"Bad and a public code, together": {{Code: 131, Fail: 2}, {Code: 171, Fail: 11}, {Code: 129, Fail: 1}},
		"a Fail that isn't":               {{Code: 3, Fail: 7}, {Code: 3, Fail: 9}, {Code: 3, Fail: 12}, {Code: 3, Fail: 130}, {Code: 3, Fail: 255}},
		"a request":                       {{Code: 3, Addr: 107, Count: 3}},
		"a response":                      {{Code: 3, Words: []uint16{555, 0}}},
		"a request that was refused":      {{Code: 3, Fail: 2, Addr: 107, Count: 3}},
		"a response that was refused":     {{Code: 3, Fail: 2, Words: []uint16{555, 0}}},
	} {
		for _, m := range l {
			expectNone(t, what, m)
		}
	}
}

// setField gives a field of a message a value that isn't zero, the smallest or the greatest of its kind.
func setField(v reflect.Value, greatest bool) {
	switch v.Kind() {
	case reflect.Uint8, reflect.Uint16:
		v.SetUint(1)
		if greatest {
			v.SetUint(1<<v.Type().Bits() - 1)
		}
	case reflect.Slice:
		n := 1
		if greatest {
			n = 70000
		}
		v.Set(reflect.MakeSlice(v.Type(), n, n))
	default:
		panic("the tests know no field of kind " + v.Kind().String())
	}
}

// otherFields calls then with each field of a message but its Code and its Fail.
func otherFields(m *api.Msg, then func(name string, v reflect.Value)) {
	v := reflect.ValueOf(m).Elem()
	for i := range v.NumField() {
		if name := v.Type().Field(i).Name; name != "Code" && name != "Fail" {
			then(name, v.Field(i))
		}
	}
}

// P13.2: each other field set, by itself, of each refusal.
func TestWriteOtherFields(t *testing.T) {
	t.Parallel()
	each(func(b []byte, m api.Msg) {
		n := 0
		otherFields(&m, func(name string, v reflect.Value) {
			for _, greatest := range []bool{false, true} {
				setField(v, greatest)
				expectNone(t, name, m)
			}
			v.SetZero()
			expect(t, b, m, api.OK)
			n++
		})
		if want := reflect.TypeFor[api.Msg]().NumField() - 2; n != want {
			t.Fatalf("%d fields were set, want %d", n, want)
		}
	})
}

// P13.2: every number in each other field, and fields set by twos.
func TestWriteOtherNumbers(t *testing.T) {
	t.Parallel()
	m := message(3, 2)
	otherFields(&m, func(name string, v reflect.Value) {
		if v.Kind() == reflect.Slice {
			return
		}
		for x := 1; x < 1<<v.Type().Bits(); x++ {
			v.SetUint(uint64(x))
			// A number of 16 bits may be wrong in either of its bytes.
			if x < 300 || x%256 == 0 || x%97 == 0 {
				expectNone(t, name, m)
			}
		}
		v.SetUint(1)
		otherFields(&m, func(other string, w reflect.Value) {
			if other != name {
				setField(w, false)
				expectNone(t, name+" and "+other, m)
				w.SetZero()
			}
		})
		v.SetZero()
	})
	expect(t, []byte{131, 2}, m, api.OK)
}

// P13.2: each list, with so many things in it, all of them zero.
func TestWriteLists(t *testing.T) {
	for _, n := range []int{1, 2, 3, 16, 125, 255, 256, 257, 512, 32768, 65535, 65536, 65537, 131072, 1 << 20} {
		m := message(43, 11)
		otherFields(&m, func(name string, v reflect.Value) {
			if v.Kind() == reflect.Slice {
				v.Set(reflect.MakeSlice(v.Type(), n, n))
				expectNone(t, name, m)
				v.SetZero()
			}
		})
	}
}

// P13.2, R4: lists that are nil and lists that are empty are the same.
func TestEmptyLists(t *testing.T) {
	each(func(b []byte, m api.Msg) {
		otherFields(&m, func(name string, v reflect.Value) {
			if v.Kind() != reflect.Slice {
				return
			}
			for _, room := range []int{0, 3} {
				v.Set(reflect.MakeSlice(v.Type(), 0, room))
				if got, e := Write(m); e != api.OK || !bytes.Equal(got, b) {
					t.Fatalf("Write(code %d, fail %d, %s empty) = %v, %d, want %v", m.Code, m.Fail, name, got, e, b)
				}
			}
			// It stays empty, so that at the end all of them are.
		})
	})
}

// P13.3: unlike refusals have unlike bytes, of two each, and unlike bytes are unlike refusals.
func TestOneToOne(t *testing.T) {
	byMessage, byBytes := map[string]string{}, map[string]string{}
	for x := range 256 {
		for y := range 256 {
			m, e := Parse([]byte{byte(x), byte(y)})
			if e != api.OK {
				continue
			}
			told := fmt.Sprint(m)
			if was, ok := byMessage[told]; ok {
				t.Fatalf("%s is told of %v and of %d %d", told, []byte(was), x, y)
			}
			byMessage[told] = string([]byte{byte(x), byte(y)})
		}
	}
	for ask := range 256 {
		for why := range 256 {
			b, e := Write(message(ask, why))
			if e != api.OK {
				continue
			}
			if len(b) != 2 {
				t.Fatalf("Write(%v) = %v, not two bytes", message(ask, why), b)
			}
			told := fmt.Sprint(message(ask, why))
			if was, ok := byBytes[string(b)]; ok {
				t.Fatalf("%v is written of %s and of %s", b, was, told)
			}
			byBytes[string(b)] = told
			if byMessage[told] != string(b) {
				t.Fatalf("%v is written of %s, which is told of %v", b, told, []byte(byMessage[told]))
			}
		}
	}
	if len(byMessage) != 19*9 || len(byBytes) != 19*9 {
		t.Errorf("%d messages are told, %d are written, want 171", len(byMessage), len(byBytes))
	}
}

// R6: what a call answers doesn't hang on calls ahead of it.
func TestAgain(t *testing.T) {
	for range 10 {
		each(func(b []byte, m api.Msg) {
			expect(t, b, m, api.OK)
			expectModel(t, append(slices.Clone(b), 0))
			expectModel(t, b[:1])
			expectNone(t, "no Fail", api.Msg{Code: m.Code})
			expectNoneOf(t, int(m.Code), 0)
		})
	}
}

// turn changes all bytes, behind their end too.
func turn(b []byte) {
	b = b[:cap(b)]
	for i := range b {
		b[i] ^= 255
	}
}

// R5: Parse doesn't change the bytes, nor what is behind their end, and its answer doesn't hang on them.
func TestParseMemory(t *testing.T) {
	for _, tail := range [][]byte{nil, {0}, noise(40)} {
		for x := range 256 {
			for _, y := range []byte{0, 1, 2, 7, 11, 255} {
				room := slices.Concat([]byte{byte(x), y}, tail, []byte{91, 92, 93})
				was := slices.Clone(room)
				for n := range len(room) - 2 {
					m, e := Parse(room[:n])
					if !bytes.Equal(room, was) {
						t.Fatalf("Parse(%v) changes what was handed in to %v", was[:n], room)
					}
					turn(room)
					want, wantE := model(was[:n])
					if e != wantE || !code.Same(m, want) {
						t.Fatalf("Parse(%v) hangs on the bytes that were handed in", was[:n])
					}
					turn(room)
				}
			}
		}
	}
}

// full is lists that have something, behind their ends too: none of it is a refusal's.
func full(m api.Msg) api.Msg {
	m.Words, m.Bits, m.Data = []uint16{1, 2, 3}, []bool{true, false, true}, []byte{4, 5, 6}
	m.Recs = []api.Rec{{File: 7, Record: 8, Count: 9, Words: []uint16{10, 11}}, {File: 12}}
	m.Objects = []api.Object{{ID: 13, Value: []byte{14, 15}}, {ID: 16}}
	return m
}

// R5: Write doesn't change the message, nor what is behind its lists' ends, with bytes and with an error; and its answer doesn't hang on another one.
func TestWriteMemory(t *testing.T) {
	each(func(want []byte, m api.Msg) {
		lists, was := full(m), full(m)
		expectNone(t, "full", lists)
		empty := lists
		empty.Words, empty.Bits, empty.Data, empty.Recs, empty.Objects = empty.Words[:0], empty.Bits[:0], empty.Data[:0], empty.Recs[:0], empty.Objects[:0]
		b, e := Write(empty)
		if e != api.OK || !bytes.Equal(b, want) || !reflect.DeepEqual(lists, was) {
			t.Fatalf("Write(code %d, fail %d) = %v, %d, and the lists that were handed in are %v", m.Code, m.Fail, b, e, lists)
		}
		other, _ := Write(empty)
		turn(b)
		again, _ := Write(empty)
		if !bytes.Equal(other, want) || !bytes.Equal(again, want) || !reflect.DeepEqual(lists, was) {
			t.Fatalf("answers of Write(code %d, fail %d) share memory", m.Code, m.Fail)
		}
	})
}

// R5: who puts lists into what Parse or Of answered, or changes its fields, changes no other answer.
func TestAnswersMemory(t *testing.T) {
	each(func(b []byte, m api.Msg) {
		parsed, _ := Parse(b)
		of, _ := Of(m.Code, m.Fail)
		for _, answer := range []*api.Msg{&parsed, &of} {
			answer.Words = append(answer.Words[:cap(answer.Words)], 1)
			answer.Bits = append(answer.Bits[:cap(answer.Bits)], true)
			answer.Data = append(answer.Data[:cap(answer.Data)], 1)
			answer.Recs = append(answer.Recs[:cap(answer.Recs)], api.Rec{File: 1})
			answer.Objects = append(answer.Objects[:cap(answer.Objects)], api.Object{ID: 1})
			answer.Code, answer.Fail = 0, 0
			expect(t, b, m, api.OK)
		}
	})
}
