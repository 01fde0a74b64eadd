package path_test

import (
	"bytes"
	"math/rand"
	"sync"
	"testing"

	"cairn/api"
	"cairn/path"
)

func TestErrorNumber(t *testing.T) {
	if _, e := path.Pack([]byte{16}, false); e != 60 {
		t.Errorf("Errors: Pack([16]) answers %d, not ErrPath 60", e)
	}
	if _, _, e := path.Unpack(nil); e != 60 {
		t.Errorf("Errors: Unpack([]) answers %d, not ErrPath 60", e)
	}
}

func TestWorkedExamples(t *testing.T) {
	for _, c := range []struct {
		nibbles []byte
		leaf    bool
		form    []byte
	}{
		{nil, false, []byte{0}},
		{nil, true, []byte{32}},
		{[]byte{5}, false, []byte{21}},
		{[]byte{5}, true, []byte{53}},
		{[]byte{1, 2, 3}, false, []byte{17, 35}},
		{[]byte{1, 2, 3, 4}, true, []byte{32, 18, 52}},
	} {
		if form, e := path.Pack(c.nibbles, c.leaf); e != api.OK || !bytes.Equal(form, c.form) {
			t.Errorf("P6.2: Pack(%v, %v) = %v, %d, not %v, 0", c.nibbles, c.leaf, form, e, c.form)
		}
		if nibbles, leaf, e := path.Unpack(c.form); e != api.OK || leaf != c.leaf || !bytes.Equal(nibbles, c.nibbles) {
			t.Errorf("P6.3: Unpack(%v) = %v, %v, %d, not %v, %v, 0", c.form, nibbles, leaf, e, c.nibbles, c.leaf)
		}
	}
	for _, form := range [][]byte{{}, {1}, {33, 0}, {64}, append([]byte{16}, make([]byte, 32)...), make([]byte, 34)} {
		if nibbles, leaf, e := path.Unpack(form); e != api.ErrPath || leaf || len(nibbles) != 0 {
			t.Errorf("P6.3: Unpack(%v) = %v, %v, %d, not no nibbles, false, ErrPath", form, nibbles, leaf, e)
		}
	}
	if nibbles, leaf, e := path.Unpack(make([]byte, 33)); e != api.OK || leaf || !bytes.Equal(nibbles, make([]byte, 64)) {
		t.Errorf("P6.3: Unpack of 33 zeros = %v, %v, %d, not 64 zeros, false, 0", nibbles, leaf, e)
	}
}

func TestLengthsOfPaths(t *testing.T) {
	for _, length := range lengths() {
		for _, leaf := range []bool{false, true} {
			form, e := path.Pack(somePath(length), leaf)
			if length <= 64 && (e != api.OK || len(form) != 1+length/2) {
				t.Errorf("P6.1, P6.2: a path of %d nibbles has %d bytes, error %d", length, len(form), e)
			}
			if length > 64 && (e != api.ErrPath || len(form) != 0) {
				t.Errorf("P6.1, P6.2: %d nibbles, which are no path: %v, %d", length, form, e)
			}
			checkPack(t, somePath(length), leaf)
		}
	}
}

func TestNibblesOfPaths(t *testing.T) {
	for _, length := range lengths() {
		for _, at := range []int{0, 1, length / 2, length - 2, length - 1} {
			if at < 0 || at >= length {
				continue
			}
			for n := range 256 {
				nibbles := somePath(length)
				nibbles[at] = byte(n)
				_, e := path.Pack(nibbles, true)
				if fits := n < 16 && length <= 64; fits != (e == api.OK) {
					t.Errorf("P6.1: a nibble %d at place %d of %d: error %d", n, at, length, e)
				}
				checkPack(t, nibbles, false)
				checkPack(t, nibbles, true)
			}
		}
	}
}

func TestShortPaths(t *testing.T) {
	for n := range 1 << 12 {
		nibbles := []byte{byte(n >> 8), byte(n >> 4 & 15), byte(n & 15)}
		for length := range 4 {
			checkPack(t, nibbles[:length], false)
			checkPack(t, nibbles[:length], true)
		}
	}
}

func TestFirstBytes(t *testing.T) {
	for first := range 256 {
		for _, behind := range []int{0, 1, 2, 30, 31, 32, 33, 34, 100} {
			for _, filler := range []byte{0, 1, 16, 18, 240, 255} {
				form := append([]byte{byte(first)}, bytes.Repeat([]byte{filler}, behind)...)
				checkUnpack(t, form)
			}
		}
	}
}

func TestLengthsOfForms(t *testing.T) {
	for _, c := range []struct {
		first  byte
		behind int
		length int // of the path; -1: there is none
	}{
		{0, 0, 0}, {16, 0, 1}, {32, 0, 0}, {63, 0, 1}, {64, 0, -1}, {1, 0, -1}, {34, 0, -1},
		{0, 31, 62}, {16, 31, 63}, {32, 31, 62}, {48, 31, 63}, {47, 31, -1}, {15, 31, -1},
		{0, 32, 64}, {16, 32, -1}, {32, 32, 64}, {48, 32, -1}, {31, 32, -1}, {63, 32, -1},
		{0, 33, -1}, {16, 33, -1}, {32, 33, -1}, {48, 33, -1},
	} {
		nibbles, leaf, e := path.Unpack(append([]byte{c.first}, make([]byte, c.behind)...))
		if c.length < 0 && (e != api.ErrPath || leaf || len(nibbles) != 0) {
			t.Errorf("P6.3: byte %d and %d behind it: %v, %v, %d, not no nibbles, false, ErrPath", c.first, c.behind, nibbles, leaf, e)
		}
		if c.length >= 0 && (e != api.OK || leaf != (c.first >= 32) || len(nibbles) != c.length) {
			t.Errorf("P6.3: byte %d and %d behind it: %v, %v, %d, not %d nibbles", c.first, c.behind, nibbles, leaf, e, c.length)
		}
	}
	checkUnpack(t, nil)
	checkUnpack(t, []byte{})
	for _, length := range []int{1, 32, 33, 34, 35, 64, 65, 1000} {
		checkUnpack(t, make([]byte, length))
	}
}

func TestEveryTwoBytes(t *testing.T) {
	for n := range 1 << 16 {
		checkUnpack(t, []byte{byte(n >> 8), byte(n)})
	}
}

func TestThereAndBack(t *testing.T) {
	paths := somePaths()
	of := map[string]int{}
	for i, nibbles := range paths {
		for k, leaf := range []bool{false, true} {
			checkPack(t, nibbles, leaf)
			form, e := path.Pack(nibbles, leaf)
			back, backLeaf, f := path.Unpack(form)
			if e != api.OK || f != api.OK || backLeaf != leaf || !bytes.Equal(back, nibbles) {
				t.Errorf("P6.4: %v, %v: packed %v, %d; unpacked %v, %v, %d", nibbles, leaf, form, e, back, backLeaf, f)
			}
			if other, met := of[string(form)]; met && (other%2 != k || !bytes.Equal(paths[other/2], nibbles)) {
				t.Errorf("P6.4: %v is the form of two paths: %v, and %v", form, paths[other/2], nibbles)
			}
			of[string(form)] = 2*i + k
		}
	}
}

func TestBackAndThere(t *testing.T) {
	random := rand.New(rand.NewSource(64))
	taken, refused := 0, 0
	for range 20000 {
		form := make([]byte, random.Intn(36))
		random.Read(form)
		if len(form) > 0 && random.Intn(4) > 0 {
			form[0] %= 64
		}
		checkUnpack(t, form)
		nibbles, leaf, e := path.Unpack(form)
		if e != api.OK {
			refused++
			continue
		}
		taken++
		if again, f := path.Pack(nibbles, leaf); f != api.OK || !bytes.Equal(again, form) {
			t.Errorf("P6.4: Unpack takes %v as %v, %v, of which Pack answers %v, %d", form, nibbles, leaf, again, f)
		}
	}
	if taken < 5000 || refused < 5000 {
		t.Errorf("P6.4: %d taken and %d refused are too few of one", taken, refused)
	}
}

func TestAlteredForms(t *testing.T) {
	for _, nibbles := range [][]byte{nil, {5}, {1, 2}, somePath(31), somePath(62), somePath(63), somePath(64)} {
		form, _ := wantForm(nibbles, true)
		for at := range form {
			for b := range 256 {
				altered := bytes.Clone(form)
				altered[at] = byte(b)
				checkUnpack(t, altered)
			}
		}
		for cut := range form {
			checkUnpack(t, form[:cut])
			checkUnpack(t, form[cut:])
		}
		checkUnpack(t, append(form, 0))
		checkUnpack(t, append([]byte{0}, form...))
	}
}

func TestNilIsEmpty(t *testing.T) {
	for _, leaf := range []bool{false, true} {
		a, e := path.Pack(nil, leaf)
		b, f := path.Pack([]byte{}, leaf)
		if e != f || !bytes.Equal(a, b) {
			t.Errorf("R4: Pack tells nil from no nibbles: %v, %d and %v, %d", a, e, b, f)
		}
	}
	_, _, e := path.Unpack(nil)
	_, _, f := path.Unpack([]byte{})
	if e != api.ErrPath || f != api.ErrPath {
		t.Errorf("R4: Unpack tells nil from no bytes: %d and %d", e, f)
	}
}

func TestSideBySide(t *testing.T) {
	var all sync.WaitGroup
	nibbles, form := somePath(63), append([]byte{32}, somePath(32)...)
	for range 8 {
		all.Go(func() {
			for range 200 {
				checkPack(t, nibbles, true)
				checkUnpack(t, form)
			}
		})
	}
	all.Wait()
}
