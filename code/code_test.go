package code

import (
	"bytes"
	"reflect"
	"slices"
	"testing"

	"busbar/api"
)

// among tells whether x is in one of the ranges, each told by its first and its last number.
func among(x int, ranges [][2]int) bool {
	return slices.ContainsFunc(ranges, func(r [2]int) bool { return r[0] <= x && x <= r[1] })
}

// P7.1, Public: every byte against the chapter's words, and its example.
func TestPublic(t *testing.T) {
	words := [][2]int{{1, 8}, {11, 12}, {15, 17}, {20, 24}, {43, 43}}
	for c := range 256 {
		if got, want := Public(uint8(c)), among(c, words); got != want {
			t.Errorf("Public(%d) = %v, want %v", c, got, want)
		}
	}
	if !Public(43) || Public(44) {
		t.Error("Public of 43, not of 44")
	}
}

// P7.1, Failure: every byte against the chapter's words.
func TestFailure(t *testing.T) {
	words := [][2]int{{1, 6}, {8, 8}, {10, 11}}
	for x := range 256 {
		if got, want := Failure(uint8(x)), among(x, words); got != want {
			t.Errorf("Failure(%d) = %v, want %v", x, got, want)
		}
	}
}

// P7.2, Answers: every two bytes; of an ask below Bad itself and 128 more, of any other ask none.
func TestAnswers(t *testing.T) {
	for ask := range 256 {
		for answer := range 256 {
			want := ask < 128 && (answer == ask || answer == ask+128)
			if got := Answers(uint8(ask), uint8(answer)); got != want {
				t.Errorf("Answers(%d, %d) = %v, want %v", ask, answer, got, want)
			}
		}
	}
}

// P7.2, Answers: the chapter's example, and both sides of Bad.
func TestAnswersEdges(t *testing.T) {
	for _, c := range []struct {
		ask, answer uint8
		want        bool
	}{
		{3, 131, true}, {3, 3, true}, {3, 130, false}, {131, 3, false}, {131, 131, false},
		{0, 0, true}, {0, 128, true}, {128, 128, false}, {128, 0, false},
		{127, 127, true}, {127, 255, true}, {255, 255, false}, {255, 127, false},
	} {
		if got := Answers(c.ask, c.answer); got != c.want {
			t.Errorf("Answers(%d, %d) = %v, want %v", c.ask, c.answer, got, c.want)
		}
	}
	if Bad != 128 {
		t.Errorf("Bad = %d, want 128", Bad)
	}
}

// P7.2, Broadcast: every byte.
func TestBroadcast(t *testing.T) {
	for unit := range 256 {
		if got := Broadcast(uint8(unit)); got != (unit == 0) {
			t.Errorf("Broadcast(%d) = %v", unit, got)
		}
	}
}

// P7.3: every number of 16 bits against the chapter's words.
func TestBits(t *testing.T) {
	words := [][2]int{{0, 4}, {10, 18}, {20, 20}}
	for sub := range 1 << 16 {
		if got, want := Bits(uint16(sub)), among(sub, words); got != want {
			t.Errorf("Bits(%d) = %v, want %v", sub, got, want)
		}
	}
}

// full is a message in which each field has a value of its own, in memory of its own.
func full() api.Msg {
	return api.Msg{
		Code: 1, Fail: 2,
		Addr: 259, Count: 260, Value: 261, And: 262, Or: 263,
		Addr2: 264, Sub: 265,
		Status: 266, Events: 267, Messages: 268,
		Words: []uint16{513, 514, 515},
		Bits:  []bool{true, false, false},
		Data:  []byte{21, 22, 23},
		Recs: []api.Rec{
			{File: 769, Record: 770, Count: 771, Words: []uint16{772, 773, 774}},
			{File: 775, Record: 776, Count: 777},
			{File: 778, Record: 779, Count: 780, Words: []uint16{781, 782, 783}},
		},
		Mei: 31, Kind: 32, Level: 33, More: 34, Next: 35,
		Objects: []api.Object{
			{ID: 41, Value: []byte{42, 43, 44}},
			{ID: 45},
			{ID: 46, Value: []byte{47, 48, 49}},
		},
	}
}

// expect asks Same in both orders.
func expect(t *testing.T, what string, a, b api.Msg, want bool) {
	t.Helper()
	if got := Same(a, b); got != want {
		t.Errorf("%s: Same = %v, want %v", what, got, want)
	}
	if got := Same(b, a); got != want {
		t.Errorf("%s, turned: Same = %v, want %v", what, got, want)
	}
}

// P7.4: a message and itself, and one of the same values in other memory; of no fields set too.
func TestSame(t *testing.T) {
	m := full()
	expect(t, "itself", m, m, true)
	expect(t, "in other memory", m, full(), true)
	expect(t, "zero", api.Msg{}, api.Msg{}, true)
	expect(t, "zero and full", api.Msg{}, m, false)
}

// P7.4: that a list has more room, or other memory behind its end, plays no part.
func TestSameRoom(t *testing.T) {
	a, b := full(), full()
	b.Words = append(b.Words, 1, 2, 3, 4, 5, 6)[:3]
	b.Bits = append(b.Bits, true, true)[:3]
	b.Data = append(b.Data, 9, 9, 9)[:3]
	b.Recs = append(b.Recs, api.Rec{File: 1})[:3]
	b.Recs[0].Words = append(b.Recs[0].Words, 1)[:3]
	b.Objects = append(b.Objects, api.Object{ID: 1})[:3]
	b.Objects[2].Value = append(b.Objects[2].Value, 1)[:3]
	expect(t, "more room", a, b, true)
}

// change calls then with every value beside v's own that the tests ask for, v being set to it, and sets v back each time.
func change(v reflect.Value, what string, then func(what string)) {
	was := reflect.New(v.Type()).Elem()
	was.Set(v)
	defer v.Set(was)
	switch v.Kind() {
	case reflect.Uint8, reflect.Uint16:
		for bit := range v.Type().Bits() {
			v.SetUint(was.Uint() ^ 1<<bit)
			then(what)
		}
	case reflect.Bool:
		v.SetBool(!was.Bool())
		then(what)
	case reflect.Struct:
		for i := range v.NumField() {
			change(v.Field(i), what+"."+v.Type().Field(i).Name, then)
		}
	case reflect.Slice:
		changeList(v, what, then)
	default:
		panic("the tests know no field of kind " + v.Kind().String())
	}
}

// changeList is change of a list: each element, one of zero more or another copy of the last at either end, one less at either end, and none.
func changeList(v reflect.Value, what string, then func(what string)) {
	was := v.Slice3(0, v.Len(), v.Len())
	for i := range v.Len() {
		change(v.Index(i), what+"[]", then)
	}
	zero := reflect.MakeSlice(v.Type(), 1, 1)
	lists := []reflect.Value{reflect.AppendSlice(was, zero), reflect.AppendSlice(zero, was)}
	if n := v.Len(); n > 0 {
		lists = append(lists, reflect.Append(was, was.Index(n-1)), was.Slice(1, n), was.Slice(0, n-1))
	}
	if v.Len() > 1 {
		lists = append(lists, reflect.Zero(v.Type()))
	}
	for _, l := range lists {
		v.Set(l)
		then(what + " of another length")
	}
}

// P7.4: messages that differ in one thing alone: each bit of each number, each element of each list, and lengths, within Recs and Objects too.
func TestSameOneDiffers(t *testing.T) {
	// Of the second and third message, a difference that hangs on other fields' values would be seen.
	for _, start := range []func() api.Msg{full, func() api.Msg { return api.Msg{} }, func() api.Msg { return filled(65535) }} {
		seen := map[string]bool{}
		a, b := start(), start()
		change(reflect.ValueOf(&b).Elem(), "Msg", func(what string) {
			seen[what] = true
			expect(t, what, a, b, false)
		})
		expect(t, "set back", a, b, true)
		for i := range reflect.TypeFor[api.Msg]().NumField() {
			f := reflect.TypeFor[api.Msg]().Field(i)
			if name := "Msg." + f.Name; !seen[name] && !seen[name+" of another length"] {
				t.Errorf("%s was not changed", name)
			}
		}
	}
}

// filled is a message whose numbers are all x, in lists of one element.
func filled(x uint16) api.Msg {
	y := uint8(x)
	return api.Msg{
		Code: y, Fail: y, Addr: x, Count: x, Value: x, And: x, Or: x, Addr2: x, Sub: x, Status: x, Events: x, Messages: x,
		Words: []uint16{x}, Bits: []bool{true}, Data: []byte{y},
		Recs: []api.Rec{{File: x, Record: x, Count: x, Words: []uint16{x}}},
		Mei:  y, Kind: y, Level: y, More: y, Next: y,
		Objects: []api.Object{{ID: y, Value: []byte{y}}},
	}
}

// swapAll calls then with each two fields of one type that v has exchanged, and sets them back each time.
func swapAll(v reflect.Value, then func(what string)) {
	for i := range v.NumField() {
		for j := range i {
			x, y := v.Field(i), v.Field(j)
			if x.Type() != y.Type() {
				continue
			}
			hold := reflect.New(x.Type()).Elem()
			swap := func() { hold.Set(x); x.Set(y); y.Set(hold) }
			swap()
			then(v.Type().Field(i).Name + " and " + v.Type().Field(j).Name)
			swap()
		}
	}
}

// P7.4: two fields whose values are exchanged are not alike.
func TestSameSwapped(t *testing.T) {
	a, b := full(), full()
	differ := func(what string) { expect(t, what, a, b, false) }
	swapAll(reflect.ValueOf(&b).Elem(), differ)
	for i := range b.Recs {
		swapAll(reflect.ValueOf(&b.Recs[i]).Elem(), differ)
	}
	expect(t, "set back", a, b, true)
}

// words is n numbers, each another one, from 1 on.
func words(n int) []uint16 {
	l := make([]uint16, n)
	for i := range l {
		l[i] = uint16(i + 1)
	}
	return l
}

// bytesOf is n bytes, from 1 on.
func bytesOf(n int) []byte {
	b := make([]byte, n)
	for i := range b {
		b[i] = byte(i + 1)
	}
	return b
}

// P7.4: long lists that differ at each place alone, the first and the last among them.
func TestSameLongLists(t *testing.T) {
	const n = 300
	recs, objects := make([]api.Rec, n), make([]api.Object, n)
	a := api.Msg{Words: words(n), Data: bytesOf(n), Bits: make([]bool, n), Recs: recs, Objects: objects}
	for i := range n {
		b := a
		b.Words = slices.Clone(a.Words)
		b.Words[i] ^= 256
		expect(t, "Words", a, b, false)
		b = a
		b.Data = bytes.Clone(a.Data)
		b.Data[i] ^= 128
		expect(t, "Data", a, b, false)
		b = a
		b.Bits = slices.Clone(a.Bits)
		b.Bits[i] = true
		expect(t, "Bits", a, b, false)
		b = a
		b.Recs = slices.Clone(a.Recs)
		b.Recs[i].Words = []uint16{0}
		expect(t, "Recs", a, b, false)
		b = a
		b.Objects = slices.Clone(a.Objects)
		b.Objects[i].Value = []byte{0}
		expect(t, "Objects", a, b, false)
		b = api.Msg{Words: a.Words[:i], Data: a.Data[:i], Bits: a.Bits[:i], Recs: a.Recs[:i], Objects: a.Objects[:i]}
		expect(t, "shorter", a, b, false)
	}
}

// P7.4: the same elements in another order, or shared out among parts in another way, are not alike.
func TestSameOrder(t *testing.T) {
	a := full()
	for i, turn := range []func(m *api.Msg){
		func(m *api.Msg) { slices.Reverse(m.Words) },
		func(m *api.Msg) { slices.Reverse(m.Bits) },
		func(m *api.Msg) { slices.Reverse(m.Data) },
		func(m *api.Msg) { slices.Reverse(m.Recs) },
		func(m *api.Msg) { slices.Reverse(m.Recs[2].Words) },
		func(m *api.Msg) { slices.Reverse(m.Objects) },
		func(m *api.Msg) { slices.Reverse(m.Objects[2].Value) },
	} {
		b := full()
		turn(&b)
		if expect(t, "turned", a, b, false); t.Failed() {
			t.Fatalf("list %d", i)
		}
	}
	expect(t, "words of parts",
		api.Msg{Recs: []api.Rec{{Words: []uint16{1, 2}}, {Words: []uint16{3}}}},
		api.Msg{Recs: []api.Rec{{Words: []uint16{1}}, {Words: []uint16{2, 3}}}}, false)
	expect(t, "bytes of objects",
		api.Msg{Objects: []api.Object{{Value: []byte{1, 2}}, {Value: []byte{3}}}},
		api.Msg{Objects: []api.Object{{Value: []byte{1}}, {Value: []byte{2, 3}}}}, false)
}

// P7.4: the same numbers in another list are not alike.
func TestSameOtherList(t *testing.T) {
	l := []api.Msg{
		{},
		{Words: []uint16{1}}, {Bits: []bool{true}}, {Data: []byte{1}},
		{Recs: []api.Rec{{Words: []uint16{1}}}}, {Objects: []api.Object{{Value: []byte{1}}}},
		{Recs: []api.Rec{{File: 1}}}, {Objects: []api.Object{{ID: 1}}},
		{Words: []uint16{0}}, {Bits: []bool{false}}, {Data: []byte{0}}, {Recs: []api.Rec{{}}}, {Objects: []api.Object{{}}},
	}
	for i, a := range l {
		for j, b := range l {
			if got := Same(a, b); got != (i == j) {
				t.Errorf("Same of messages %d and %d = %v", i, j, got)
			}
		}
	}
}

// P7.4, R4: lists that are nil and lists that are empty are alike, each alone and all at once, within Recs and Objects too.
func TestSameEmptyLists(t *testing.T) {
	parts := func() api.Msg { return api.Msg{Recs: make([]api.Rec, 2), Objects: make([]api.Object, 2)} }
	all := parts()
	for i, empty := range []func(m *api.Msg){
		func(m *api.Msg) { m.Words = []uint16{} },
		func(m *api.Msg) { m.Bits = []bool{} },
		func(m *api.Msg) { m.Data = []byte{} },
		func(m *api.Msg) { m.Recs[0].Words = []uint16{} },
		func(m *api.Msg) { m.Recs[1].Words = words(4)[:0] },
		func(m *api.Msg) { m.Objects[0].Value = []byte{} },
		func(m *api.Msg) { m.Objects[1].Value = bytesOf(4)[:0] },
	} {
		one := parts()
		empty(&one)
		empty(&all)
		expect(t, "one list empty", parts(), one, true)
		if expect(t, "lists empty", parts(), all, true); t.Failed() {
			t.Fatalf("list %d", i)
		}
	}
	expect(t, "Recs", api.Msg{}, api.Msg{Recs: []api.Rec{}}, true)
	expect(t, "Objects", api.Msg{}, api.Msg{Objects: []api.Object{}}, true)
	expect(t, "all of them", api.Msg{}, api.Msg{Words: []uint16{}, Bits: []bool{}, Data: []byte{}, Recs: []api.Rec{}, Objects: []api.Object{}}, true)
	expect(t, "an empty list and one of zero", api.Msg{Words: []uint16{}}, api.Msg{Words: []uint16{0}}, false)
}

// roomy is full with something behind the end of each list, in the list's room.
func roomy() api.Msg {
	m := full()
	m.Words = append(m.Words, 91)[:3]
	m.Bits = append(m.Bits, true)[:3]
	m.Data = append(m.Data, 92)[:3]
	m.Recs = append(m.Recs, api.Rec{File: 93})[:3]
	m.Objects = append(m.Objects, api.Object{ID: 94})[:3]
	m.Recs[0].Words = append(m.Recs[0].Words, 95)[:3]
	m.Objects[0].Value = append(m.Objects[0].Value, 96)[:3]
	return m
}

// spread is a message with its lists as long as roomy made them, what lies behind their ends included.
func spread(m api.Msg) api.Msg {
	m.Recs, m.Objects = slices.Clone(m.Recs[:4]), slices.Clone(m.Objects[:4])
	m.Recs[0].Words, m.Objects[0].Value = m.Recs[0].Words[:4], m.Objects[0].Value[:4]
	m.Words, m.Bits, m.Data = m.Words[:4], m.Bits[:4], m.Data[:4]
	return m
}

// R5: Same changes nothing of what it is handed, neither in its lists nor behind their ends, whatever it answers.
func TestSameChangesNothing(t *testing.T) {
	a, b := roomy(), roomy()
	b.Objects[2].Value[2]++
	want := roomy()
	if !Same(a, a) || Same(a, b) || Same(b, a) || Same(a, api.Msg{}) {
		t.Error("Same tells otherwise than it should")
	}
	if !reflect.DeepEqual(spread(a), spread(want)) {
		t.Errorf("what was handed in is %v, was %v", a, want)
	}
	want.Objects[2].Value[2]++
	if !reflect.DeepEqual(spread(b), spread(want)) {
		t.Errorf("what was handed in is %v, was %v", b, want)
	}
	empty := api.Msg{Words: []uint16{}, Recs: []api.Rec{{}}}
	Same(empty, api.Msg{})
	if empty.Words == nil || empty.Data != nil || empty.Recs[0].Words != nil {
		t.Error("a list that is nil, or empty, has become the other")
	}
}

// R5, R6: nothing is kept: who changes a list that was handed in is told of what it is now.
func TestSameKeepsNothing(t *testing.T) {
	a, b := full(), full()
	for range 3 {
		expect(t, "alike", a, b, true)
		a.Words[2]++
		expect(t, "changed", a, b, false)
		b.Words[2]++
		expect(t, "both changed", a, b, true)
		a.Recs[2].Words[0]++
		expect(t, "changed within", a, b, false)
		a.Recs[2].Words[0]--
	}
}

// R6: the same question has the same answer, whatever was asked ahead.
func TestAskedAgain(t *testing.T) {
	for range 50 {
		if !Public(1) || Public(0) || !Failure(11) || Failure(12) || !Bits(20) || Bits(19) || !Bits(0) || Failure(7) || !Public(7) {
			t.Fatal("an answer hangs on what was asked ahead")
		}
	}
}
