package node_test

import (
	"bytes"
	"testing"

	"cairn/api"
	"cairn/node"
)

// roomy tells a copy of bytes whose spare room is filled with marks.
func roomy(b []byte) []byte {
	return append(append([]byte{}, b...), 7, 201, 0, 32, 255, 16, 9, 204)[:len(b)]
}

// roomyNode tells a node like n, all of whose lists have spare room filled with marks.
func roomyNode(n api.Node) api.Node {
	n.Path, n.Value, n.Next.Node = roomy(n.Path), roomy(n.Value), roomy(n.Next.Node)
	for i := range n.Kids {
		n.Kids[i].Node = roomy(n.Kids[i].Node)
	}
	return n
}

// lists tells all lists of bytes of a node.
func lists(n api.Node) [][]byte {
	out := [][]byte{n.Path, n.Value, n.Next.Node}
	for _, kid := range n.Kids {
		out = append(out, kid.Node)
	}
	return out
}

// rooms tells copies of lists in which what is spare room there counts too.
func rooms(all [][]byte) [][]byte {
	var out [][]byte
	for _, b := range all {
		out = append(out, append([]byte{}, b[:cap(b)]...))
	}
	return out
}

// equal tells whether two lists of lists are one.
func equal(a, b [][]byte) bool {
	for i := range a {
		if !bytes.Equal(a[i], b[i]) {
			return false
		}
	}
	return len(a) == len(b)
}

// fill writes one byte all over a list and its spare room.
func fill(b []byte, c byte) {
	for i := range b[:cap(b)] {
		b[:cap(b)][i] = c
	}
}

// shared writes a mark of its own into each list, spare room too, and tells whether one of them has lost its mark.
func shared(all [][]byte) bool {
	for i, b := range all {
		fill(b, byte(i))
	}
	for i, b := range all {
		for _, c := range b[:cap(b)] {
			if c != byte(i) {
				return true
			}
		}
	}
	return false
}

// someWrong tells nodes that may not be, and have lists all the same.
func someWrong() []api.Node {
	return []api.Node{
		{}, {Kind: 4, Path: []byte{1}, Value: []byte("x")}, leaf([]byte{16}, []byte("x")), leaf(somePath(65), []byte("x")), leaf(nil, someBytes(257)),
		extension([]byte{7}, shortLeaf('a')), extension([]byte{7}, raw("\xc2\x20\x81")), branch(nil, map[int]api.Ref{1: shortLeaf('a')}),
		branch([]byte("v"), map[int]api.Ref{1: raw("\xc3\x20\x81\x01"), 2: whole(leafOf(32))}),
	}
}

// someForms tells encodings, and bytes that are none.
func someForms() [][]byte {
	out := [][]byte{nil, {0x80}, {0xc0}, []byte("\xc3\x20\x81\x01"), []byte("\xc2\x20aa"), []byte("\xd7\x17\xc2\x20a"), someBytes(31), someBytes(32), someBytes(500)}
	for _, n := range someNodes() {
		out = append(out, []byte(wantEncoding(n)))
	}
	return out
}

func TestArgumentsStayAsTheyAre(t *testing.T) {
	for _, n := range append(someNodes(), someWrong()...) {
		in := roomyNode(n)
		before := rooms(lists(in))
		node.Check(in)
		node.Encode(in)
		if !equal(rooms(lists(in)), before) {
			t.Errorf("R3: Check or Encode has changed what it was handed: %s", tell(n))
		}
	}
	for _, b := range someForms() {
		in := roomy(b)
		before := rooms([][]byte{in})
		node.Decode(in)
		node.Hashes(in)
		node.Refer(newBook(t, 256), in)
		node.Refer(nil, in)
		if !equal(rooms([][]byte{in}), before) {
			t.Errorf("R3: Decode, Hashes or Refer has changed what it was handed: %x", b)
		}
	}
}

func TestSpareRoomDoesNotCount(t *testing.T) {
	for _, n := range append(someNodes(), someWrong()...) {
		checkNode(t, "with spare room", roomyNode(n))
	}
	for _, b := range someForms() {
		checkBytes(t, "with spare room", roomy(b))
	}
}

func TestEncodeAnswersNewMemory(t *testing.T) {
	for _, n := range someNodes() {
		in := roomyNode(n)
		before := rooms(lists(in))
		first, _ := node.Encode(in)
		second, _ := node.Encode(in)
		third, _ := node.Encode(in)
		if shared([][]byte{first, second}) {
			t.Errorf("R3: two answers of Encode share memory: %s", tell(n))
		}
		if !equal(rooms(lists(in)), before) {
			t.Errorf("R3: Encode answers memory of its argument: %s", tell(n))
		}
		shared(lists(in))
		if string(third) != wantEncoding(n) {
			t.Errorf("R3: what Encode answered of %s hangs on what became of its argument", tell(n))
		}
	}
}

func TestDecodeAnswersNewMemory(t *testing.T) {
	for _, n := range someNodes() {
		in := roomy([]byte(wantEncoding(n)))
		before := rooms([][]byte{in})
		first, _ := node.Decode(in)
		second, _ := node.Decode(in)
		third, _ := node.Decode(in)
		if shared(append(lists(first), lists(second)...)) {
			t.Errorf("R3: two lists of Decode's answers share memory: %s", tell(n))
		}
		if !equal(rooms([][]byte{in}), before) {
			t.Errorf("R3: Decode answers memory of its argument: %s", tell(n))
		}
		fill(in, 77)
		if !same(third, n) {
			t.Errorf("R3: what Decode answered hangs on what became of its argument: %s", tell(n))
		}
	}
}

func TestReferAnswersNewMemory(t *testing.T) {
	for _, length := range []int{0, 1, 3, 24, 31, 32, 100} {
		book := newBook(t, 256)
		in := roomy(someBytes(length))
		before := rooms([][]byte{in})
		first, second, third := node.Refer(book, in), node.Refer(book, in), node.Refer(book, in)
		if shared([][]byte{first.Node, second.Node}) {
			t.Errorf("R3: two answers of Refer of %d bytes share memory", length)
		}
		if !equal(rooms([][]byte{in}), before) {
			t.Errorf("R3: Refer of %d bytes answers memory of its argument", length)
		}
		fill(in, 77)
		if length < 32 && !bytes.Equal(third.Node, someBytes(length)) {
			t.Errorf("R3: what Refer of %d bytes answered hangs on what became of its argument", length)
		}
	}
}

func TestHashesAnswersNewMemory(t *testing.T) {
	for _, n := range someNodes() {
		in := roomy([]byte(wantEncoding(n)))
		before := rooms([][]byte{in})
		first, _ := node.Hashes(in)
		second, _ := node.Hashes(in)
		for i := range first[:cap(first)] {
			first[:cap(first)][i] = someHash(100)
		}
		if !equal(rooms([][]byte{in}), before) {
			t.Errorf("R3: Hashes answers memory of its argument: %s", tell(n))
		}
		fill(in, 77)
		if !sameHashes(second, wantHashes(n)) {
			t.Errorf("R3: two answers of Hashes share memory: %s", tell(n))
		}
	}
}
