package rlp_test

import (
	"bytes"
	"testing"

	"cairn/api"
	"cairn/rlp"
)

// roomy tells bytes whose spare room is filled with a mark.
func roomy(s string) []byte { return append([]byte(s), 201, 202, 203, 204)[:len(s)] }

// roomyItem tells an item like x, all of whose lists have spare room filled with marks.
func roomyItem(x rlp.Item) rlp.Item {
	y := rlp.Item{List: x.List, Bytes: roomy(string(x.Bytes))}
	for _, z := range x.Items {
		y.Items = append(y.Items, roomyItem(z))
	}
	y.Items = append(y.Items, rlp.Item{Bytes: roomy("mark")}, rlp.Item{List: true})[:len(x.Items)]
	return y
}

// wholeItem tells a copy of an item in which what is spare room there counts too.
func wholeItem(x rlp.Item) rlp.Item {
	y := rlp.Item{List: x.List, Bytes: bytes.Clone(x.Bytes[:cap(x.Bytes)])}
	for _, z := range x.Items[:cap(x.Items)] {
		y.Items = append(y.Items, wholeItem(z))
	}
	return y
}

// memory is all lists that some answers have, in whatever order.
type memory struct {
	bytes [][]byte
	items [][]rlp.Item
}

// take adds the lists of an item.
func (m *memory) take(x rlp.Item) {
	m.bytes = append(m.bytes, x.Bytes)
	m.items = append(m.items, x.Items)
	for _, y := range x.Items {
		m.take(y)
	}
}

// shared writes a mark of its own into each list, spare room too, and tells whether one of them has lost its mark.
func (m *memory) shared() bool {
	for i, b := range m.bytes {
		fill(b, byte(i))
	}
	for i, items := range m.items {
		for k := range items[:cap(items)] {
			items[:cap(items)][k] = rlp.Item{Bytes: []byte{byte(i)}}
		}
	}
	for i, b := range m.bytes {
		for _, c := range b[:cap(b)] {
			if c != byte(i) {
				return true
			}
		}
	}
	for i, items := range m.items {
		for _, y := range items[:cap(items)] {
			if y.Bytes[0] != byte(i) {
				return true
			}
		}
	}
	return false
}

// fill writes one byte all over a list and its spare room.
func fill(b []byte, c byte) {
	for k := range b[:cap(b)] {
		b[:cap(b)][k] = c
	}
}

// fewItems tells items with few enough lists for each to have a mark of its own.
func fewItems() []rlp.Item {
	return []rlp.Item{
		str(""), str("a"), str("\x80"), str("dog"), str(as(60)), list(), list(list(), list(list())), listOfAs(60),
		list(str("cat"), str("cat"), list(str("a"), str("a"), str("")), str(as(57)), list(str("dog"))),
		within(str("dog"), 40),
	}
}

func TestArgumentsStayAsTheyAre(t *testing.T) {
	wrong := []rlp.Item{
		{List: true, Bytes: []byte("ab"), Items: []rlp.Item{str("a")}},
		{Bytes: []byte("a"), Items: []rlp.Item{str("b")}},
		within(list(), 80), str("\x00\x01"),
	}
	for _, x := range append(fewItems(), wrong...) {
		in := roomyItem(x)
		before := wholeItem(in)
		rlp.Encode(in)
		in.Int()
		if !same(wholeItem(in), before) {
			t.Errorf("R3: Encode or Int has changed what it was handed: %+v", in)
		}
	}
	forms := []string{"", "\xb8", "\x81\x05", "\xc3\xc0\x81\x05", "ab", "\x83dog\x83cat", wantForm(within(list(), 80))}
	for _, x := range fewItems() {
		forms = append(forms, wantForm(x))
	}
	for _, form := range forms {
		in := roomy(form)
		before := bytes.Clone(in[:cap(in)])
		rlp.Decode(in)
		rlp.Split(in)
		if !bytes.Equal(in[:cap(in)], before) {
			t.Errorf("R3: Decode or Split has changed what it was handed: %x", in)
		}
	}
}

func TestEncodeAnswersNewMemory(t *testing.T) {
	for _, x := range fewItems() {
		in := roomyItem(x)
		before := wholeItem(in)
		first, _ := rlp.Encode(in)
		second, _ := rlp.Encode(in)
		fill(first, 77)
		if string(second) != wantForm(x) || !same(wholeItem(in), before) {
			t.Errorf("R3: Encode answers memory of its argument or of another answer: %x", second)
		}
		var given memory
		given.take(in)
		given.shared()
		if string(second) != wantForm(x) {
			t.Errorf("R3: what Encode answered hangs on what became of its argument: %x", second)
		}
	}
}

func TestDecodeAnswersNewMemory(t *testing.T) {
	for _, x := range fewItems() {
		form := wantForm(x)
		in := roomy(form)
		before := bytes.Clone(in[:cap(in)])
		first, _, _ := rlp.Decode(in)
		second, _, _ := rlp.Decode(in)
		third, _, _ := rlp.Decode(in)
		var m memory
		m.take(first)
		m.take(second)
		if m.shared() {
			t.Errorf("R3: two lists of Decode's answers for %x share memory", form)
		}
		if !bytes.Equal(in[:cap(in)], before) {
			t.Errorf("R3: Decode answers memory of its argument %x", form)
		}
		fill(in, 77)
		if !same(third, x) {
			t.Errorf("R3: what Decode answered for %x hangs on what became of its argument", form)
		}
	}
}

func TestSplitAnswersNewMemory(t *testing.T) {
	for _, c := range [][2]string{{"a", ""}, {"a", "b"}, {"\x83dog", "\x83cat"}, {"\xc3\xc0\xc1\xc0", as(40)}, {wantForm(str(as(60))), wantForm(listOfAs(60))}} {
		in := roomy(c[0] + c[1])
		before := bytes.Clone(in[:cap(in)])
		first, rest, _ := rlp.Split(in)
		first2, rest2, _ := rlp.Split(in)
		first3, rest3, e := rlp.Split(in)
		m := memory{bytes: [][]byte{first, rest, first2, rest2}}
		if m.shared() {
			t.Errorf("R3: two of Split's answers for %x share memory", c)
		}
		if !bytes.Equal(in[:cap(in)], before) {
			t.Errorf("R3: Split answers memory of its argument %x", c)
		}
		fill(in, 77)
		if e != api.OK || string(first3) != c[0] || string(rest3) != c[1] {
			t.Errorf("R3: what Split answered for %x hangs on what became of its argument", c)
		}
	}
}

func TestNumberAnswersNewMemory(t *testing.T) {
	for _, n := range []int64{0, 1, 127, 128, 256, 1 << 40} {
		first, _ := rlp.Number(n)
		second, _ := rlp.Number(n)
		third, _ := rlp.Number(n)
		var m memory
		m.take(first)
		m.take(second)
		if m.shared() || !same(third, str(wantDigits(uint64(n)))) {
			t.Errorf("R3: two answers of Number(%d) share memory", n)
		}
	}
}
