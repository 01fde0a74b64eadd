package rlp_test

import (
	"math/rand"
	"sync"
	"testing"

	"cairn/api"
	"cairn/rlp"
)

func TestThereAndBack(t *testing.T) {
	forms := map[string]rlp.Item{}
	for _, x := range manyItems() {
		b, e := rlp.Encode(x)
		if e != api.OK {
			t.Fatalf("5.7: Encode of an item that may be answers %d", e)
		}
		if y, p, e := rlp.Decode(b); e != api.OK || p != 0 || !same(x, y) {
			t.Errorf("5.7: Decode of Encode of an item is another one: %.40x, %d, %d", b, p, e)
		}
		if y, there := forms[string(b)]; there && !same(x, y) {
			t.Errorf("5.7: two items have the form %.40x", b)
		}
		forms[string(b)] = x
	}
}

// smallItems tells every item of at most so many strings and lists, its strings of four kinds.
func smallItems(most int) []rlp.Item {
	out := []rlp.Item{str(""), str("\x05"), str("\x85"), str("\xc0\x80"), list()}
	for parts := 2; parts <= most; parts++ {
		for _, items := range smallLists(parts - 1) {
			out = append(out, list(items...))
		}
	}
	return out
}

// smallLists tells every list of at least one item with just so many strings and lists together.
func smallLists(parts int) [][]rlp.Item {
	if parts == 0 {
		return [][]rlp.Item{nil}
	}
	var out [][]rlp.Item
	for first := 1; first <= parts; first++ {
		var firsts []rlp.Item
		if first == 1 {
			firsts = []rlp.Item{str(""), str("\x05"), str("\x85"), str("\xc0\x80"), list()}
		} else {
			for _, items := range smallLists(first - 1) {
				firsts = append(firsts, list(items...))
			}
		}
		for _, x := range firsts {
			for _, others := range smallLists(parts - first) {
				out = append(out, append([]rlp.Item{x}, others...))
			}
		}
	}
	return out
}

func TestThereAndBackOfEverySmallItem(t *testing.T) {
	all := smallItems(5)
	forms := map[string]bool{}
	for _, x := range all {
		b, e := rlp.Encode(x)
		y, p, e2 := rlp.Decode(b)
		if e != api.OK || e2 != api.OK || p != 0 || !same(x, y) || string(b) != wantForm(x) {
			t.Fatalf("5.7: %+v: Encode answers %x, %d, Decode of it %+v, %d, %d", x, b, e, y, p, e2)
		}
		forms[string(b)] = true
	}
	if len(forms) != len(all) {
		t.Errorf("5.7: %d items have %d forms", len(all), len(forms))
	}
}

// TestBackAndThere: whatever Decode takes is just what Encode makes.
func TestBackAndThere(t *testing.T) {
	taken := 0
	check := func(b []byte) {
		x, _, e := rlp.Decode(b)
		if e != api.OK {
			return
		}
		taken++
		if again, e := rlp.Encode(x); e != api.OK || string(again) != string(b) {
			t.Fatalf("5.7: Encode of Decode of %x is %x, %d", b, again, e)
		}
	}
	for c := range 256 {
		check([]byte{byte(c)})
		for d := range 256 {
			check([]byte{byte(c), byte(d)})
			for _, f := range []byte{0, 5, 0x7f, 0x80, 0x81, 0xb8, 0xc0, 0xc1, 0xf8, 0xff} {
				check([]byte{byte(c), byte(d), f})
			}
		}
	}
	r := rand.New(rand.NewSource(57))
	for i := range 20000 {
		check(altered(r, wantForm(someItem(r, 1+i%4))))
	}
	if taken < 2000 {
		t.Errorf("only %d lists of bytes were taken", taken)
	}
}

func TestCutAndLonger(t *testing.T) {
	for _, x := range manyItems() {
		form := []byte(wantForm(x))
		step := 1 + len(form)/200
		for n := 0; n < len(form); n += step {
			checkCut(t, form, n)
		}
		checkCut(t, form, len(form)-1)
		for _, behind := range []string{"\x00", "a", "\x80", "\xc0", "\xff", "\xf8", as(57), string(form)} {
			longer := append(append([]byte{}, form...), behind...)
			if y, p, e := rlp.Decode(longer); e != api.ErrLong || p != len(form) || !isZero(y) {
				t.Fatalf("5.8: Decode of %.40x and %.40x answers %d, %d, not %d, ErrLong", form, behind, p, e, len(form))
			}
		}
	}
	full := append([]byte{0xba, 0x0f, 0xff, 0xfb}, as(1048571)...)
	if _, p, e := rlp.Decode(append(full, 'a')); e != api.ErrLong || p != 1048575 {
		t.Errorf("5.8: a byte behind a form, MaxItem in all: %d, %d", p, e)
	}
	for _, n := range []int{0, 1, 2, 3, 4, 5, 1000, 1048574} {
		checkCut(t, full, n)
	}
}

func checkCut(t *testing.T, form []byte, n int) {
	t.Helper()
	if y, p, e := rlp.Decode(form[:n]); e != api.ErrShort || p != 0 || !isZero(y) {
		t.Fatalf("5.8: Decode of the first %d bytes of %.40x answers %d, %d, not 0, ErrShort", n, form, p, e)
	}
}

func TestPieces(t *testing.T) {
	items := manyItems()
	r := rand.New(rand.NewSource(59))
	for _, x := range items {
		y := items[r.Intn(len(items))]
		b := []byte(wantForm(x) + wantForm(y))
		first, rest, e := rlp.Split(b)
		if e != api.OK || string(first) != wantForm(x) || string(rest) != wantForm(y) {
			t.Fatalf("5.9: Split of the forms %.40x, %.40x = %.40x, %.40x, %d", wantForm(x), wantForm(y), first, rest, e)
		}
		if first, rest, e = rlp.Split(rest); e != api.OK || string(first) != wantForm(y) || len(rest) != 0 {
			t.Fatalf("5.9: Split of the second, %.40x = %.40x, %.40x, %d", wantForm(y), first, rest, e)
		}
	}
}

func TestCallsSideBySide(t *testing.T) {
	items := manyItems()[:500]
	faulty := []byte("\xc3\xc0\x81\x05")
	wrong := make([]bool, 8)
	var group sync.WaitGroup
	for i := range wrong {
		group.Go(func() {
			for _, x := range items {
				b, _ := rlp.Encode(x)
				y, _, _ := rlp.Decode(b)
				_, p, e := rlp.Decode(faulty)
				wrong[i] = wrong[i] || !same(x, y) || p != 2 || e != api.ErrForm
			}
		})
	}
	group.Wait()
	for i := range wrong {
		if wrong[i] {
			t.Errorf("R5: worker %d met another answer", i)
		}
	}
}
