package path_test

import (
	"bytes"
	"math/rand"
	"testing"

	"cairn/api"
	"cairn/path"
)

// The model: P6.1 to P6.3 written down a second time, by texts of hexadecimal digits, so that it has no arithmetic in common with the program.

const digits = "0123456789abcdef"

// wantForm tells the form of a path, and whether the nibbles are one.
func wantForm(nibbles []byte, leaf bool) ([]byte, bool) {
	if len(nibbles) > 64 {
		return nil, false
	}
	text := ""
	for _, n := range nibbles {
		if int(n) >= len(digits) {
			return nil, false
		}
		text += digits[n : n+1]
	}
	odd := len(text)%2 == 1
	switch {
	case odd && leaf:
		text = "3" + text
	case odd:
		text = "1" + text
	case leaf:
		text = "20" + text
	default:
		text = "00" + text
	}
	var form []byte
	for i := 0; i < len(text); i += 2 {
		form = append(form, byte(bytes.IndexByte([]byte(digits), text[i])*16+bytes.IndexByte([]byte(digits), text[i+1])))
	}
	return form, true
}

// wantPath tells the path and the leaf of a form, and whether the bytes are one.
func wantPath(form []byte) (nibbles []byte, leaf, ok bool) {
	if len(form) == 0 || len(form) > 33 {
		return nil, false, false
	}
	for i, b := range form {
		if i > 0 {
			nibbles = append(nibbles, b/16)
		}
		nibbles = append(nibbles, b%16)
	}
	switch form[0] / 16 {
	case 0, 2:
		if nibbles[0] != 0 {
			return nil, false, false
		}
		nibbles = nibbles[1:]
	case 1, 3:
	default:
		return nil, false, false
	}
	if len(nibbles) > 64 {
		return nil, false, false
	}
	return nibbles, form[0] >= 32, true
}

// checkPack holds Pack against the model.
func checkPack(t *testing.T, nibbles []byte, leaf bool) {
	t.Helper()
	form, e := path.Pack(nibbles, leaf)
	want, ok := wantForm(nibbles, leaf)
	if ok && (e != api.OK || !bytes.Equal(form, want)) {
		t.Errorf("P6.2: Pack(%v, %v) = %v, %d, not %v, 0", nibbles, leaf, form, e, want)
	}
	if !ok && (e != api.ErrPath || len(form) != 0) {
		t.Errorf("P6.1, P6.2: Pack(%v, %v) = %v, %d, not no bytes, ErrPath", nibbles, leaf, form, e)
	}
}

// checkUnpack holds Unpack against the model.
func checkUnpack(t *testing.T, form []byte) {
	t.Helper()
	nibbles, leaf, e := path.Unpack(form)
	wantNibbles, wantLeaf, ok := wantPath(form)
	if ok && (e != api.OK || leaf != wantLeaf || !bytes.Equal(nibbles, wantNibbles)) {
		t.Errorf("P6.3: Unpack(%v) = %v, %v, %d, not %v, %v, 0", form, nibbles, leaf, e, wantNibbles, wantLeaf)
	}
	if !ok && (e != api.ErrPath || leaf || len(nibbles) != 0) {
		t.Errorf("P6.3: Unpack(%v) = %v, %v, %d, not no nibbles, false, ErrPath", form, nibbles, leaf, e)
	}
}

// lengths tells the numbers of nibbles at the edges of P6.1, and some between and beyond them.
func lengths() []int { return []int{0, 1, 2, 3, 4, 5, 31, 32, 33, 62, 63, 64, 65, 66, 67, 128, 1000} }

// somePath tells so many nibbles that differ from place to place.
func somePath(length int) []byte {
	nibbles := make([]byte, length)
	for i := range nibbles {
		nibbles[i] = byte((7*i + 5) % 16)
	}
	return nibbles
}

// somePaths tells, for each length, paths of zeros, of fifteens, and of what a fixed seed gives.
func somePaths() [][]byte {
	random := rand.New(rand.NewSource(6))
	var out [][]byte
	for length := range 65 {
		out = append(out, make([]byte, length), bytes.Repeat([]byte{15}, length), somePath(length))
		for range 20 {
			nibbles := make([]byte, length)
			for i := range nibbles {
				nibbles[i] = byte(random.Intn(16))
			}
			out = append(out, nibbles)
		}
	}
	return out
}
