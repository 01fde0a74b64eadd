package octet_test

import (
	"bytes"
	"strings"
	"sync"
	"testing"

	"cairn/api"
	"cairn/octet"
)

// everyByte tells all 256 bytes, each once.
func everyByte() []byte {
	all := make([]byte, 256)
	for i := range all {
		all[i] = byte(i)
	}
	return all
}

// shortLists tells every list of at most three elements out of those at the edges of bytes and nibbles.
func shortLists() [][]byte {
	edges := []byte{0, 1, 15, 16, 127, 128, 255}
	lists := [][]byte{{}}
	last := lists
	for range 3 {
		var next [][]byte
		for _, list := range last {
			for _, x := range edges {
				next = append(next, append(bytes.Clone(list), x))
			}
		}
		lists = append(lists, next...)
		last = next
	}
	return lists
}

func TestErrorNumbers(t *testing.T) {
	if _, e := octet.Bytes([]byte{1}); e != 2 {
		t.Errorf("Errors: Bytes([1]) answers %d, not ErrInput 2", e)
	}
	if _, e := octet.Unhex("0"); e != 10 {
		t.Errorf("Errors: Unhex(\"0\") answers %d, not ErrHex 10", e)
	}
}

func TestNibbles(t *testing.T) {
	for _, c := range []struct{ b, want []byte }{
		{nil, nil},
		{[]byte{}, nil},
		{[]byte{0}, []byte{0, 0}},
		{[]byte{240}, []byte{15, 0}},
		{[]byte{15}, []byte{0, 15}},
		{[]byte{18, 255, 0}, []byte{1, 2, 15, 15, 0, 0}},
	} {
		if got := octet.Nibbles(c.b); !bytes.Equal(got, c.want) {
			t.Errorf("P1.1: Nibbles(%v) = %v, not %v", c.b, got, c.want)
		}
	}
	all := everyByte()
	n := octet.Nibbles(all)
	if len(n) != 512 {
		t.Fatalf("P1.1: 256 bytes have %d nibbles", len(n))
	}
	for i, x := range all {
		if n[2*i] != x/16 || n[2*i+1] != x%16 {
			t.Errorf("P1.1: byte %d: nibbles %d, %d", x, n[2*i], n[2*i+1])
		}
	}
}

func TestBytes(t *testing.T) {
	for _, c := range []struct{ n, want []byte }{
		{nil, nil},
		{[]byte{}, nil},
		{[]byte{1, 2, 15, 15}, []byte{18, 255}},
		{[]byte{15, 0, 0, 15}, []byte{240, 15}},
		{octet.Nibbles(everyByte()), everyByte()},
	} {
		got, e := octet.Bytes(c.n)
		if e != api.OK || !bytes.Equal(got, c.want) {
			t.Errorf("P1.2: Bytes(%v) = %v, %d, not %v", c.n, got, e, c.want)
		}
	}
}

func TestBytesOfEveryShortList(t *testing.T) {
	for _, n := range shortLists() {
		right := len(n)%2 == 0
		for _, x := range n {
			right = right && x <= 15
		}
		got, e := octet.Bytes(n)
		if right && (e != api.OK || !bytes.Equal(octet.Nibbles(got), n)) {
			t.Errorf("P1.2: Bytes(%v) = %v, %d", n, got, e)
		}
		if !right && (e != api.ErrInput || len(got) != 0) {
			t.Errorf("P1.2: Bytes(%v) = %v, %d, not ErrInput alone", n, got, e)
		}
	}
}

func TestBytesRefusesAnyPlace(t *testing.T) {
	for place := range 8 {
		for wrong := 16; wrong < 256; wrong++ {
			n := []byte{1, 2, 3, 4, 5, 6, 7, 8}
			n[place] = byte(wrong)
			if got, e := octet.Bytes(n); e != api.ErrInput || len(got) != 0 {
				t.Fatalf("P1.2: Bytes(%v) = %v, %d", n, got, e)
			}
		}
	}
}

func TestCommon(t *testing.T) {
	for _, c := range []struct {
		a, b []byte
		want int
	}{
		{nil, nil, 0},
		{nil, []byte{1}, 0},
		{[]byte{}, nil, 0},
		{[]byte{7}, []byte{7}, 1},
		{[]byte{7}, []byte{8}, 0},
		{[]byte{1, 2, 3}, []byte{1, 2, 4, 5}, 2},
		{[]byte{1, 2}, []byte{1, 2, 0}, 2},
		{[]byte{1, 9, 3}, []byte{1, 8, 3}, 1},
		{[]byte{0, 0, 0}, []byte{0, 0}, 2},
		{everyByte(), everyByte(), 256},
	} {
		if got := octet.Common(c.a, c.b); got != c.want {
			t.Errorf("P1.3: Common(%v, %v) = %d, not %d", c.a, c.b, got, c.want)
		}
		if got := octet.Common(c.b, c.a); got != c.want {
			t.Errorf("P1.3: Common(%v, %v) = %d, not %d", c.b, c.a, got, c.want)
		}
	}
}

func TestCommonIsTheGreatest(t *testing.T) {
	lists := shortLists()
	for _, a := range lists {
		for _, b := range lists {
			k := octet.Common(a, b)
			if k < 0 || k > len(a) || k > len(b) || !bytes.Equal(a[:k], b[:k]) {
				t.Fatalf("P1.3: Common(%v, %v) = %d", a, b, k)
			}
			if k < len(a) && k < len(b) && a[k] == b[k] {
				t.Fatalf("P1.3: Common(%v, %v) = %d is not the greatest", a, b, k)
			}
		}
	}
}

func TestCompare(t *testing.T) {
	for _, c := range []struct {
		a, b []byte
		want int
	}{
		{nil, nil, 0},
		{nil, []byte{}, 0},
		{nil, []byte{0}, -1},
		{[]byte{1, 2}, []byte{1, 2, 0}, -1},
		{[]byte{2}, []byte{1, 255}, 1},
		{[]byte{127}, []byte{128}, -1},
		{[]byte{1, 2, 3}, []byte{1, 3, 2}, -1},
		{[]byte{255, 0, 9}, []byte{255, 0, 9}, 0},
	} {
		if got := octet.Compare(c.a, c.b); got != c.want {
			t.Errorf("P1.4: Compare(%v, %v) = %d, not %d", c.a, c.b, got, c.want)
		}
		if got := octet.Compare(c.b, c.a); got != -c.want {
			t.Errorf("P1.4: Compare(%v, %v) = %d, not %d", c.b, c.a, got, -c.want)
		}
	}
	lists := shortLists()
	for _, a := range lists {
		for _, b := range lists {
			if got, want := octet.Compare(a, b), strings.Compare(string(a), string(b)); got != want {
				t.Fatalf("P1.4: Compare(%v, %v) = %d, not %d", a, b, got, want)
			}
		}
	}
}

func TestWithin(t *testing.T) {
	half := api.Bounds{From: []byte{5}, To: []byte{6}}
	long := bytes.Repeat([]byte{5}, api.MaxKey+9)
	for _, c := range []struct {
		key  []byte
		b    api.Bounds
		want bool
	}{
		{[]byte{5}, half, true},
		{[]byte{6}, half, false},
		{[]byte{6, 0}, half, false},
		{[]byte{5, 0}, half, true},
		{[]byte{5, 255, 255}, half, true},
		{[]byte{4, 9}, half, false},
		{nil, half, false},
		{nil, api.Bounds{}, false},
		{nil, api.Bounds{To: []byte{0}}, true},
		{[]byte{0}, api.Bounds{To: []byte{0}}, false},
		{nil, api.Bounds{Open: true}, true},
		{[]byte{255}, api.Bounds{Open: true}, true},
		{nil, api.Bounds{From: []byte{0}, Open: true}, false},
		{[]byte{9}, api.Bounds{From: []byte{9}, Open: true}, true},
		{[]byte{9}, api.Bounds{From: []byte{9}, To: []byte{1}, Open: true}, true},
		{[]byte{8, 255}, api.Bounds{From: []byte{9}, To: []byte{1}, Open: true}, false},
		{[]byte{5}, api.Bounds{From: []byte{5}, To: []byte{5}}, false},
		{[]byte{5}, api.Bounds{From: []byte{6}, To: []byte{4}}, false},
		{[]byte{5, 6}, api.Bounds{From: long, To: []byte{6}}, true},
		{[]byte{5}, api.Bounds{From: long, To: []byte{6}}, false},
		{[]byte{5}, api.Bounds{To: long}, true},
		{long, half, true},
	} {
		if got := octet.Within(c.key, c.b); got != c.want {
			t.Errorf("P1.5: Within(%v, %+v) = %v", c.key, c.b, got)
		}
	}
}

func TestWithinOfEveryShortBounds(t *testing.T) {
	lists := [][]byte{{}, {0}, {0, 0}, {1}, {1, 255}, {127}, {128}, {255}, {255, 255}}
	for _, key := range lists {
		for _, from := range lists {
			for _, to := range lists {
				reached := string(from) <= string(key)
				open := api.Bounds{From: from, To: to, Open: true}
				if octet.Within(key, open) != reached {
					t.Errorf("P1.5: Within(%v, %+v) is not %v", key, open, reached)
				}
				shut := api.Bounds{From: from, To: to}
				if want := reached && string(key) < string(to); octet.Within(key, shut) != want {
					t.Errorf("P1.5: Within(%v, %+v) is not %v", key, shut, want)
				}
			}
		}
	}
}

func TestHex(t *testing.T) {
	for _, c := range []struct {
		b []byte
		s string
	}{
		{nil, ""},
		{[]byte{}, ""},
		{[]byte{0, 171, 255}, "00abff"},
		{[]byte{1, 16}, "0110"},
		{[]byte{0x01, 0x23, 0x45, 0x67, 0x89, 0xab, 0xcd, 0xef}, "0123456789abcdef"},
	} {
		if got := octet.Hex(c.b); got != c.s {
			t.Errorf("P1.6: Hex(%v) = %q, not %q", c.b, got, c.s)
		}
		if got, e := octet.Unhex(c.s); e != api.OK || !bytes.Equal(got, c.b) {
			t.Errorf("P1.6: Unhex(%q) = %v, %d, not %v", c.s, got, e, c.b)
		}
	}
	all := everyByte()
	if got, e := octet.Unhex(octet.Hex(all)); e != api.OK || !bytes.Equal(got, all) {
		t.Errorf("P1.6: Unhex(Hex(all bytes)) = %v, %d", got, e)
	}
}

func TestUnhexRefuses(t *testing.T) {
	for _, s := range []string{"0", "abc", "AB", "aB", "Ab", "0g", "g0", " 0", "0 ", "0x", "0x00", "00 ", "00\n0", "é", "\x00\x00", "٠"} {
		if b, e := octet.Unhex(s); e != api.ErrHex || len(b) != 0 {
			t.Errorf("P1.6: Unhex(%q) = %v, %d, not ErrHex alone", s, b, e)
		}
	}
}

func TestUnhexOfEveryTwoCharacters(t *testing.T) {
	const digits = "0123456789abcdef"
	for x := range 256 {
		for y := range 256 {
			s := string([]byte{byte(x), byte(y)})
			high, low := strings.IndexByte(digits, s[0]), strings.IndexByte(digits, s[1])
			b, e := octet.Unhex(s)
			if high < 0 || low < 0 {
				if e != api.ErrHex || len(b) != 0 {
					t.Errorf("P1.6: Unhex(%q) = %v, %d, not ErrHex alone", s, b, e)
				}
				continue
			}
			if e != api.OK || len(b) != 1 || int(b[0]) != 16*high+low || octet.Hex(b) != s {
				t.Errorf("P1.6: Unhex(%q) = %v, %d", s, b, e)
			}
		}
	}
}

// roomy tells a list whose spare room is filled with a mark, and the whole memory under it.
func roomy(list ...byte) (short, whole []byte) {
	whole = append(bytes.Clone(list), 201, 202, 203, 204)
	return whole[:len(list)], whole
}

func TestArgumentsStayAsTheyAre(t *testing.T) {
	a, wholeA := roomy(1, 2, 15, 0)
	b, wholeB := roomy(1, 2, 15, 9)
	odd, wholeOdd := roomy(1, 2, 99)
	keepA, keepB, keepOdd := bytes.Clone(wholeA), bytes.Clone(wholeB), bytes.Clone(wholeOdd)
	octet.Nibbles(a)
	octet.Bytes(a)
	octet.Bytes(odd)
	octet.Common(a, b)
	octet.Compare(a, b)
	octet.Within(a, api.Bounds{From: b, To: odd})
	octet.Within(a, api.Bounds{From: b, To: odd, Open: true})
	octet.Hex(a)
	if !bytes.Equal(wholeA, keepA) || !bytes.Equal(wholeB, keepB) || !bytes.Equal(wholeOdd, keepOdd) {
		t.Errorf("R3: arguments have changed: %v, %v, %v", wholeA, wholeB, wholeOdd)
	}
}

// overwrite fills a list and its spare room.
func overwrite(list []byte) {
	list = list[:cap(list)]
	for i := range list {
		list[i] = 77
	}
}

func TestAnswersAreNewMemory(t *testing.T) {
	in, whole := roomy(1, 2, 15, 0)
	keep := bytes.Clone(whole)
	for name, call := range map[string]func() []byte{
		"Nibbles": func() []byte { return octet.Nibbles(in) },
		"Bytes":   func() []byte { b, _ := octet.Bytes(in); return b },
		"Unhex":   func() []byte { b, _ := octet.Unhex("00ab"); return b },
	} {
		first := call()
		want := bytes.Clone(first)
		second := call()
		overwrite(first)
		if !bytes.Equal(second, want) || !bytes.Equal(call(), want) {
			t.Errorf("R3: two answers of %s share memory", name)
		}
		if !bytes.Equal(whole, keep) {
			t.Errorf("R3: %s answers memory of its argument: %v", name, whole)
		}
	}
}

func TestArgumentsAreNotKept(t *testing.T) {
	in := []byte{1, 2, 15, 0}
	n := octet.Nibbles(in)
	b, _ := octet.Bytes(in)
	h := octet.Hex(in)
	overwrite(in)
	if !bytes.Equal(n, []byte{0, 1, 0, 2, 0, 15, 0, 0}) || !bytes.Equal(b, []byte{18, 240}) || h != "01020f00" {
		t.Errorf("R3: answers hang on what became of the argument: %v, %v, %q", n, b, h)
	}
}

func TestNilAndEmptyAreOne(t *testing.T) {
	empty := []byte{}
	for _, none := range [][]byte{nil, empty} {
		b, e := octet.Bytes(none)
		if len(octet.Nibbles(none)) != 0 || len(b) != 0 || e != api.OK || octet.Hex(none) != "" {
			t.Errorf("R4: a list without elements (nil: %v) has an answer with some", none == nil)
		}
		if octet.Common(none, []byte{0}) != 0 || octet.Compare(none, empty) != 0 || octet.Compare(nil, none) != 0 {
			t.Errorf("R4: nil and a list without elements differ (nil: %v)", none == nil)
		}
		if !octet.Within(none, api.Bounds{From: none, To: []byte{0}}) || octet.Within([]byte{0}, api.Bounds{To: none}) {
			t.Errorf("R4: bounds of nil and of a list without elements differ (nil: %v)", none == nil)
		}
	}
}

func TestCallsSideBySide(t *testing.T) {
	all := everyByte()
	text := octet.Hex(all)
	wrong := make([]bool, 8)
	var group sync.WaitGroup
	for i := range wrong {
		group.Go(func() {
			b, _ := octet.Unhex(text)
			back, _ := octet.Bytes(octet.Nibbles(b))
			wrong[i] = !bytes.Equal(back, all) || octet.Hex(back) != text
		})
	}
	group.Wait()
	for i := range wrong {
		if wrong[i] {
			t.Errorf("R5: worker %d met another answer", i)
		}
	}
}
