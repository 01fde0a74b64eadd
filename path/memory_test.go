package path_test

import (
	"bytes"
	"testing"

	"cairn/path"
)

// roomy tells a copy of bytes whose spare room is filled with marks, nibbles and others.
func roomy(b []byte) []byte {
	return append(bytes.Clone(b), 7, 201, 0, 32, 255, 16, 9, 204)[:len(b)]
}

// whole tells a copy of bytes in which what is spare room there counts too.
func whole(b []byte) []byte { return bytes.Clone(b[:cap(b)]) }

// fill writes one byte all over bytes and their spare room.
func fill(b []byte, c byte) {
	for i := range b[:cap(b)] {
		b[:cap(b)][i] = c
	}
}

// argumentsOfPack tells paths of odd and even lengths, and nibbles that are none.
func argumentsOfPack() [][]byte {
	return [][]byte{nil, {5}, {1, 2}, {1, 2, 3}, somePath(63), somePath(64), somePath(65), {16}, {1, 2, 255}}
}

// argumentsOfUnpack tells forms of odd and even paths, and bytes that are none.
func argumentsOfUnpack() [][]byte {
	return [][]byte{
		nil, {0}, {32}, {21}, {53}, {17, 35}, {32, 18, 52}, {1}, {64}, {33, 0}, make([]byte, 34),
		append([]byte{32}, somePath(32)...), append([]byte{60}, somePath(31)...), append([]byte{60}, somePath(32)...),
	}
}

func TestArgumentsStayAsTheyAre(t *testing.T) {
	for _, nibbles := range argumentsOfPack() {
		in := roomy(nibbles)
		before := whole(in)
		path.Pack(in, false)
		path.Pack(in, true)
		if !bytes.Equal(whole(in), before) {
			t.Errorf("R3: Pack has changed what it was handed: %v", nibbles)
		}
	}
	for _, form := range argumentsOfUnpack() {
		in := roomy(form)
		before := whole(in)
		path.Unpack(in)
		if !bytes.Equal(whole(in), before) {
			t.Errorf("R3: Unpack has changed what it was handed: %v", form)
		}
	}
}

func TestSpareRoomDoesNotCount(t *testing.T) {
	for _, nibbles := range argumentsOfPack() {
		checkPack(t, roomy(nibbles), false)
		checkPack(t, roomy(nibbles), true)
	}
	for _, form := range argumentsOfUnpack() {
		checkUnpack(t, roomy(form))
	}
}

func TestPackAnswersNewMemory(t *testing.T) {
	for _, nibbles := range argumentsOfPack() {
		in := roomy(nibbles)
		before := whole(in)
		first, _ := path.Pack(in, true)
		second, _ := path.Pack(in, true)
		want, _ := wantForm(nibbles, true)
		fill(first, 77)
		if !bytes.Equal(second, want) {
			t.Errorf("R3: two answers of Pack(%v) share memory", nibbles)
		}
		fill(second, 78)
		if !bytes.Equal(whole(in), before) {
			t.Errorf("R3: Pack answers memory of its argument %v", nibbles)
		}
		third, _ := path.Pack(in, true)
		fill(in, 79)
		if !bytes.Equal(third, want) {
			t.Errorf("R3: what Pack answered of %v hangs on what became of its argument", nibbles)
		}
	}
}

func TestUnpackAnswersNewMemory(t *testing.T) {
	for _, form := range argumentsOfUnpack() {
		in := roomy(form)
		before := whole(in)
		first, _, _ := path.Unpack(in)
		second, _, _ := path.Unpack(in)
		want, _, _ := wantPath(form)
		fill(first, 77)
		if !bytes.Equal(second, want) {
			t.Errorf("R3: two answers of Unpack(%v) share memory", form)
		}
		fill(second, 78)
		if !bytes.Equal(whole(in), before) {
			t.Errorf("R3: Unpack answers memory of its argument %v", form)
		}
		third, _, _ := path.Unpack(in)
		fill(in, 79)
		if !bytes.Equal(third, want) {
			t.Errorf("R3: what Unpack answered of %v hangs on what became of its argument", form)
		}
	}
}
