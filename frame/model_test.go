package frame_test

import (
	"bytes"
	"math/rand"
	"slices"
	"testing"

	"cairn/api"
	"cairn/frame"
)

// The model: P9.1 to P9.4 written down a second time, by division, by subtraction and by what is left of the bytes.

const greatest = 16384

// wantWrap tells a payload's frame, and the error.
func wantWrap(payload []byte) ([]byte, api.Errno) {
	if len(payload) > greatest {
		return nil, 2
	}
	length := []byte{byte(len(payload) / 65536), byte(len(payload) / 256 % 256), byte(len(payload) % 256)}
	out := []byte{202}
	out = append(out, length...)
	for _, c := range length {
		out = append(out, 255-c)
	}
	return append(out, payload...), 0
}

// wantFirst tells the first frame's payload, the frame's length, and the error: the first that applies.
func wantFirst(b []byte) ([]byte, int, api.Errno) {
	if len(b) == 0 {
		return nil, 0, 91
	}
	if b[0] != 202 {
		return nil, 0, 90
	}
	if len(b) < 7 {
		return nil, 0, 91
	}
	length := 0
	for i := 1; i <= 3; i++ {
		if int(b[i])+int(b[i+3]) != 255 {
			return nil, 0, 90
		}
		length = length*256 + int(b[i])
	}
	if length > greatest {
		return nil, 0, 90
	}
	if len(b)-7 < length {
		return nil, 0, 91
	}
	return b[7:][:length], 7 + length, 0
}

// wantScan tells the payloads of all whole frames, where each of them ends, and the error.
func wantScan(b []byte) (payloads [][]byte, ends []int, e api.Errno) {
	left := b
	for len(left) > 0 {
		payload, n, e := wantFirst(left)
		if e != 0 {
			return payloads, ends, e
		}
		left = left[n:]
		payloads = append(payloads, payload)
		ends = append(ends, len(b)-len(left))
	}
	return payloads, ends, 0
}

// brief tells the beginning of bytes, so that a message stays short.
func brief(b []byte) []byte { return b[:min(len(b), 24)] }

// checkWrap holds Wrap against the model.
func checkWrap(t *testing.T, payload []byte) {
	t.Helper()
	form, e := frame.Wrap(payload)
	if want, wrong := wantWrap(payload); e != wrong || !bytes.Equal(form, want) {
		t.Errorf("P9.1, P9.2: Wrap of %d bytes %v = %d bytes %v, %d, not %d bytes %v, %d", len(payload), brief(payload), len(form), brief(form), e, len(want), brief(want), wrong)
	}
}

// checkFirst holds First against the model.
func checkFirst(t *testing.T, b []byte) {
	t.Helper()
	payload, n, e := frame.First(b)
	want, m, wrong := wantFirst(b)
	if e != wrong || n != m || !bytes.Equal(payload, want) {
		t.Errorf("P9.3: First of %d bytes %v = %d bytes %v, %d, %d, not %d bytes %v, %d, %d", len(b), brief(b), len(payload), brief(payload), n, e, len(want), brief(want), m, wrong)
	}
}

// checkScan holds Scan against the model, and what it tells of bytes against the bytes themselves.
func checkScan(t *testing.T, b []byte) {
	t.Helper()
	payloads, ends, e := frame.Scan(b)
	want, places, wrong := wantScan(b)
	if e != wrong || !slices.Equal(ends, places) || !slices.EqualFunc(payloads, want, bytes.Equal) {
		t.Errorf("P9.4: Scan of %d bytes %v = %d payloads, ends %v, %d, not %d payloads, ends %v, %d", len(b), brief(b), len(payloads), ends, e, len(want), places, wrong)
		return
	}
	last := 0
	if len(ends) > 0 {
		last = ends[len(ends)-1]
	}
	if again := wrapAll(t, payloads); !bytes.Equal(again, b[:last]) {
		t.Errorf("P9.6: the payloads of a Scan of %d bytes %v, wrapped again, are not the bytes up to %d", len(b), brief(b), last)
	}
	if (e == api.OK) != (last == len(b)) {
		t.Errorf("P9.4: a Scan of %d bytes that came to %d answers %d", len(b), last, e)
	}
}

// wrapAll tells the frames of payloads, one behind the other.
func wrapAll(t *testing.T, payloads [][]byte) []byte {
	t.Helper()
	var out []byte
	for _, p := range payloads {
		form, e := frame.Wrap(p)
		if e != api.OK {
			t.Fatalf("P9.2: Wrap of %d bytes answers %d", len(p), e)
		}
		out = append(out, form...)
	}
	return out
}

// some tells a payload of a length, no two bytes of which in a row are alike.
func some(length int) []byte {
	out := make([]byte, length)
	for i := range out {
		out[i] = byte(i*7 + length)
	}
	return out
}

// headed tells what stands ahead of a payload of a length below 2^24, be it one that may be or not.
func headed(length int) []byte {
	a, b, c := byte(length/65536), byte(length/256%256), byte(length%256)
	return []byte{202, a, b, c, 255 - a, 255 - b, 255 - c}
}

// lengths tells lengths of payloads at which something turns.
func lengths() []int {
	return []int{0, 1, 2, 6, 7, 8, 201, 202, 254, 255, 256, 257, 511, 512, 4095, 4096, 16127, 16128, greatest - 1, greatest}
}

// somePayloads tells some random payloads, empty and marked ones among them.
func somePayloads(r *rand.Rand, most int) [][]byte {
	out := make([][]byte, r.Intn(most+1))
	for i := range out {
		switch r.Intn(5) {
		case 0:
			out[i] = nil
		case 1:
			out[i] = bytes.Repeat([]byte{202}, r.Intn(12))
		case 2:
			out[i], _ = wantWrap(some(r.Intn(5)))
		default:
			out[i] = make([]byte, r.Intn(300))
			r.Read(out[i])
		}
	}
	return out
}
