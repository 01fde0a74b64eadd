package frame_test

import (
	"bytes"
	"slices"
	"testing"

	"cairn/api"
	"cairn/frame"
)

func TestErrorNumbers(t *testing.T) {
	if _, e := frame.Wrap(make([]byte, 16385)); e != 2 {
		t.Errorf("Errors: Wrap of 16385 bytes answers %d, not ErrInput 2", e)
	}
	if _, _, e := frame.First([]byte{203}); e != 90 {
		t.Errorf("Errors: First([203]) answers %d, not ErrMark 90", e)
	}
	if _, _, e := frame.First([]byte{202}); e != 91 {
		t.Errorf("Errors: First([202]) answers %d, not ErrCut 91", e)
	}
	if _, _, e := frame.Scan([]byte{203}); e != 90 {
		t.Errorf("Errors: Scan([203]) answers %d, not ErrMark 90", e)
	}
	if _, _, e := frame.Scan([]byte{202}); e != 91 {
		t.Errorf("Errors: Scan([202]) answers %d, not ErrCut 91", e)
	}
}

func TestExampleOne(t *testing.T) {
	for _, c := range []struct{ payload, form []byte }{
		{[]byte{7, 8}, []byte{202, 0, 0, 2, 255, 255, 253, 7, 8}},
		{[]byte{}, []byte{202, 0, 0, 0, 255, 255, 255}},
		{nil, []byte{202, 0, 0, 0, 255, 255, 255}},
	} {
		if form, e := frame.Wrap(c.payload); e != api.OK || !bytes.Equal(form, c.form) {
			t.Errorf("P9.2: Wrap(%v) = %v, %d, not %v, 0", c.payload, form, e, c.form)
		}
	}
	if form, e := frame.Wrap(make([]byte, 16385)); e != api.ErrInput || form != nil {
		t.Errorf("P9.2: Wrap of 16385 bytes = %d bytes, %d, not nil, ErrInput", len(form), e)
	}
}

func TestExampleTwo(t *testing.T) {
	b := []byte{202, 0, 0, 2, 255, 255, 253, 7, 8, 9}
	if payload, n, e := frame.First(b); e != api.OK || n != 9 || !bytes.Equal(payload, []byte{7, 8}) {
		t.Errorf("P9.3: First(%v) = %v, %d, %d, not [7 8], 9, 0", b, payload, n, e)
	}
	for _, c := range []struct {
		b []byte
		e api.Errno
	}{
		{b[:8], api.ErrCut},
		{b[:1], api.ErrCut},
		{[]byte{203}, api.ErrMark},
		{[]byte{202, 0, 0, 2, 255, 255, 254, 7, 8}, api.ErrMark},
		{[]byte{202, 0, 64, 1, 255, 191, 254}, api.ErrMark},
		{[]byte{}, api.ErrCut},
		{nil, api.ErrCut},
	} {
		if payload, n, e := frame.First(c.b); e != c.e || n != 0 || payload != nil {
			t.Errorf("P9.3: First(%v) = %v, %d, %d, not nil, 0, %d", c.b, payload, n, e, c.e)
		}
	}
}

func TestExampleThree(t *testing.T) {
	for _, c := range []struct {
		b        []byte
		payloads [][]byte
		ends     []int
		e        api.Errno
	}{
		{nil, nil, nil, api.OK},
		{[]byte{}, nil, nil, api.OK},
		{append(wrapAll(t, [][]byte{{1}, {}}), 202), [][]byte{{1}, {}}, []int{8, 15}, api.ErrCut},
		{[]byte{0, 0}, nil, nil, api.ErrMark},
	} {
		payloads, ends, e := frame.Scan(c.b)
		if e != c.e || !slices.Equal(ends, c.ends) || !slices.EqualFunc(payloads, c.payloads, bytes.Equal) {
			t.Errorf("P9.4: Scan(%v) = %v, %v, %d, not %v, %v, %d", c.b, payloads, ends, e, c.payloads, c.ends, c.e)
		}
	}
}

func TestWrapOfEachLength(t *testing.T) {
	for _, length := range lengths() {
		form, e := frame.Wrap(some(length))
		if e != api.OK || len(form) != 7+length || !bytes.Equal(form[:7], headed(length)) || !bytes.Equal(form[7:], some(length)) {
			t.Errorf("P9.1, P9.2: Wrap of %d bytes: %d bytes, %d", length, len(form), e)
		}
	}
	for length := 0; length <= 16390; length++ {
		if testing.Short() && length > 600 && length < 16300 {
			continue
		}
		checkWrap(t, some(length))
	}
}

func TestWrapOfTooMany(t *testing.T) {
	for _, length := range []int{16385, 16386, 32768, 65536, 65537, 1<<24 - 1, 1 << 24, 1<<24 + 1} {
		if form, e := frame.Wrap(make([]byte, length)); e != api.ErrInput || len(form) != 0 {
			t.Errorf("P9.2: Wrap of %d bytes = %d bytes, %d, not none, ErrInput", length, len(form), e)
		}
	}
}

func TestFirstOfEachBeginning(t *testing.T) {
	for _, length := range lengths() {
		form, _ := frame.Wrap(some(length))
		for n := range form {
			payload, m, e := frame.First(form[:n])
			if e != api.ErrCut || m != 0 || len(payload) != 0 {
				t.Errorf("P9.3: First of the first %d of %d bytes = %d bytes, %d, %d, not none, 0, ErrCut", n, len(form), len(payload), m, e)
			}
		}
	}
}

func TestFirstOfMore(t *testing.T) {
	for _, length := range lengths() {
		form, _ := frame.Wrap(some(length))
		for _, behind := range [][]byte{nil, {0}, {202}, {203}, {255, 255}, form, make([]byte, 300)} {
			payload, n, e := frame.First(append(slices.Clone(form), behind...))
			if e != api.OK || n != 7+length || !bytes.Equal(payload, some(length)) {
				t.Errorf("P9.3: First of a frame of %d bytes with %d bytes behind it = %d bytes, %d, %d", length, len(behind), len(payload), n, e)
			}
		}
	}
}

func TestFirstOfOtherMarks(t *testing.T) {
	for _, length := range lengths() {
		form, _ := frame.Wrap(some(length))
		for c := range 256 {
			form[0] = byte(c)
			for _, n := range []int{1, 2, 6, 7, len(form) - 1, len(form)} {
				if n > len(form) || c == 202 {
					continue
				}
				if payload, m, e := frame.First(form[:n]); e != api.ErrMark || m != 0 || len(payload) != 0 {
					t.Errorf("P9.3: First of %d bytes with %d first = %d bytes, %d, %d, not none, 0, ErrMark", n, c, len(payload), m, e)
				}
			}
			checkFirst(t, form)
		}
	}
}

// TestFirstOfTurnedLengths turns each byte of the two lengths into each other one: no such two lengths agree.
func TestFirstOfTurnedLengths(t *testing.T) {
	for _, length := range lengths() {
		form, _ := frame.Wrap(some(length))
		for at := 1; at <= 6; at++ {
			right := form[at]
			for c := range 256 {
				form[at] = byte(c)
				payload, n, e := frame.First(form)
				if form[at] != right && (e != api.ErrMark || n != 0 || len(payload) != 0) {
					t.Errorf("P9.3: First of a frame of %d bytes with %d at place %d = %d bytes, %d, %d, not none, 0, ErrMark", length, c, at, len(payload), n, e)
				}
				checkFirst(t, form)
				checkFirst(t, form[:7])
			}
			form[at] = right
		}
	}
}

func TestFirstOfEachLength(t *testing.T) {
	behind := make([]byte, 7+greatest+2)
	for length := 0; length < 1<<24; length += step(length) {
		copy(behind, headed(length))
		want := api.OK
		if length > greatest {
			want = api.ErrMark
		}
		if payload, n, e := frame.First(behind); e != want || e == api.OK && (n != 7+length || len(payload) != length) {
			t.Errorf("P9.3: First of a frame with length %d = %d bytes, %d, %d", length, len(payload), n, e)
		}
		checkFirst(t, behind[:7])
	}
}

// step tells how far the next length is away that is looked at.
func step(length int) int {
	switch {
	case length < 300 || length > 16300 && length < 17000:
		return 1
	case length < 16300:
		return 101
	}
	return 10007
}

// TestWhichErrorComesFirst: several errors apply to each of these.
func TestWhichErrorComesFirst(t *testing.T) {
	for _, c := range []struct {
		b []byte
		e api.Errno
	}{
		{[]byte{}, api.ErrCut},
		{[]byte{0}, api.ErrMark},
		{[]byte{203, 0, 0}, api.ErrMark},
		{[]byte{203, 0, 0, 5, 255, 255, 250}, api.ErrMark},
		{[]byte{202, 0, 0, 9, 9, 9}, api.ErrCut},
		{[]byte{202, 255, 255, 255, 0, 0}, api.ErrCut},
		{[]byte{202, 0, 0, 9, 9, 9, 9}, api.ErrMark},
		{[]byte{202, 0, 0, 9, 255, 255, 245}, api.ErrMark},
		{[]byte{202, 255, 255, 255, 0, 0, 0}, api.ErrMark},
		{[]byte{202, 0, 64, 1, 255, 191, 254}, api.ErrMark},
		{[]byte{202, 1, 0, 0, 254, 255, 255}, api.ErrMark},
		{[]byte{202, 0, 64, 0, 255, 191, 255}, api.ErrCut},
		{[]byte{202, 0, 0, 9, 255, 255, 246}, api.ErrCut},
	} {
		if payload, n, e := frame.First(c.b); e != c.e || n != 0 || len(payload) != 0 {
			t.Errorf("P9.3: First(%v) = %v, %d, %d, not none, 0, %d", c.b, payload, n, e, c.e)
		}
		checkScan(t, c.b)
		checkScan(t, append(wrapAll(t, [][]byte{{1}, {}}), c.b...))
	}
}
