package frame_test

import (
	"bytes"
	"slices"
	"testing"

	"cairn/api"
	"cairn/frame"
)

// roomy tells a copy of bytes whose spare room is filled with a whole frame, so that it is seen where it counts.
func roomy(b []byte) []byte {
	return append(append(bytes.Clone(b), 202, 0, 0, 1, 255, 255, 254, 9), b...)[:len(b)]
}

// whole tells a copy of bytes in which what is spare room there counts too.
func whole(b []byte) []byte { return bytes.Clone(b[:cap(b)]) }

// fill writes one byte all over bytes and their spare room.
func fill(b []byte, c byte) {
	for i := range b[:cap(b)] {
		b[:cap(b)][i] = c
	}
}

// shared writes a mark of its own into each list, spare room too, and tells whether one of them has lost its mark.
func shared(all [][]byte) bool {
	for i, b := range all {
		fill(b, byte(i))
	}
	for i, b := range all {
		for _, c := range b[:cap(b)] {
			if c != byte(i) {
				return true
			}
		}
	}
	return false
}

// sharedPlaces does as shared does, with lists of places.
func sharedPlaces(all [][]int) bool {
	for i, l := range all {
		for k := range l[:cap(l)] {
			l[:cap(l)][k] = -i - 1
		}
	}
	for i, l := range all {
		for _, c := range l[:cap(l)] {
			if c != -i-1 {
				return true
			}
		}
	}
	return false
}

// sharedLists does as shared does, with lists of payloads.
func sharedLists(all [][][]byte) bool {
	for i, l := range all {
		for k := range l[:cap(l)] {
			l[:cap(l)][k] = make([]byte, i)
		}
	}
	for i, l := range all {
		for _, p := range l[:cap(l)] {
			if len(p) != i {
				return true
			}
		}
	}
	return false
}

// argumentsOfWrap tells payloads of all kinds, and one that is too long.
func argumentsOfWrap() [][]byte {
	return [][]byte{nil, {}, {0}, {202}, some(7), some(8), some(255), some(256), some(greatest), some(greatest + 1)}
}

// logs tells bytes with whole frames, without, and with something behind them.
func logs() [][]byte {
	frames := func(payloads ...[]byte) []byte {
		var out []byte
		for _, p := range payloads {
			form, _ := wantWrap(p)
			out = append(out, form...)
		}
		return out
	}
	several := frames([]byte{1}, nil, some(8), some(32), some(33), some(300), nil)
	return [][]byte{
		nil, {}, {0}, {202}, frames(nil), frames([]byte{7, 8}), frames(some(greatest)), several,
		several[:len(several)-1], several[:len(several)-8], append(slices.Clone(several), 202), append(slices.Clone(several), make([]byte, 9)...),
		append(slices.Clone(several), "rubbish"...), frames(slices.Repeat([][]byte{some(16)}, 70)...),
	}
}

func TestArgumentsStayAsTheyAre(t *testing.T) {
	for _, payload := range argumentsOfWrap() {
		in := roomy(payload)
		before := whole(in)
		if frame.Wrap(in); !bytes.Equal(whole(in), before) {
			t.Errorf("R3: Wrap has changed what it was handed, %d bytes", len(payload))
		}
	}
	for _, b := range logs() {
		in := roomy(b)
		before := whole(in)
		if frame.First(in); !bytes.Equal(whole(in), before) {
			t.Errorf("R3: First has changed what it was handed: %v", brief(b))
		}
		if frame.Scan(in); !bytes.Equal(whole(in), before) {
			t.Errorf("R3: Scan has changed what it was handed: %v", brief(b))
		}
	}
}

// TestSpareRoomDoesNotCount: behind the last byte stands a frame that is none of the bytes' own.
func TestSpareRoomDoesNotCount(t *testing.T) {
	for _, payload := range argumentsOfWrap() {
		checkWrap(t, roomy(payload))
	}
	for _, b := range logs() {
		for _, n := range []int{0, 1, 6, 7, 8, len(b) - 1, len(b)} {
			if n >= 0 && n <= len(b) {
				checkFirst(t, roomy(b)[:n])
				checkScan(t, roomy(b)[:n])
			}
		}
	}
}

func TestWrapAnswersNewMemory(t *testing.T) {
	for _, payload := range argumentsOfWrap() {
		in := roomy(payload)
		first, _ := frame.Wrap(in)
		second, _ := frame.Wrap(in)
		want, _ := wantWrap(payload)
		fill(in, 77)
		if !bytes.Equal(first, want) || !bytes.Equal(second, want) {
			t.Errorf("R3: what Wrap answered of %d bytes hangs on what became of its argument", len(payload))
		}
		if shared([][]byte{in, first, second}) {
			t.Errorf("R3: Wrap of %d bytes: the argument and two answers share memory", len(payload))
		}
	}
}

func TestFirstAnswersNewMemory(t *testing.T) {
	for _, b := range logs() {
		in := roomy(b)
		first, _, _ := frame.First(in)
		second, _, _ := frame.First(in)
		want, _, _ := wantFirst(b)
		fill(in, 77)
		if !bytes.Equal(first, want) || !bytes.Equal(second, want) {
			t.Errorf("R3: what First answered of %v hangs on what became of its argument", brief(b))
		}
		if shared([][]byte{in, first, second}) {
			t.Errorf("R3: First of %v: the argument and two answers share memory", brief(b))
		}
	}
}

func TestScanAnswersNewMemory(t *testing.T) {
	for _, b := range logs() {
		in := roomy(b)
		first, ends, _ := frame.Scan(in)
		second, again, _ := frame.Scan(in)
		want, places, _ := wantScan(b)
		fill(in, 77)
		if !slices.EqualFunc(first, want, bytes.Equal) || !slices.EqualFunc(second, want, bytes.Equal) {
			t.Errorf("R3: what Scan answered of %v hangs on what became of its argument", brief(b))
		}
		all := append([][]byte{in}, first[:cap(first)]...)
		if shared(append(all, second[:cap(second)]...)) {
			t.Errorf("R3: Scan of %v: the argument and the payloads of two answers share memory", brief(b))
		}
		if !slices.Equal(ends, places) || !slices.Equal(again, places) {
			t.Errorf("R3: Scan of %v: ends %v and %v, not %v", brief(b), ends, again, places)
		}
		if sharedPlaces([][]int{ends, again}) {
			t.Errorf("R3: Scan of %v: the ends of two answers share memory", brief(b))
		}
		if sharedLists([][][]byte{first, second}) {
			t.Errorf("R3: Scan of %v: the lists of two answers share memory", brief(b))
		}
	}
}

// TestPayloadsMayGrow: whoever appends to a payload does not write into another one: it is cut off where it ends.
func TestPayloadsMayGrow(t *testing.T) {
	for _, b := range logs() {
		payloads, _, _ := frame.Scan(b)
		want, _, _ := wantScan(b)
		for _, p := range payloads {
			if cap(p) != len(p) {
				t.Errorf("Ways: Scan of %v: a payload of %d bytes has room for %d", brief(b), len(p), cap(p))
			}
			_ = append(p, "beyond its end"...)
		}
		if !slices.EqualFunc(payloads, want, bytes.Equal) {
			t.Errorf("R3: Scan of %v: payloads change as others are appended to", brief(b))
		}
	}
}

// TestNilAndEmptyAreOne: R4.
func TestNilAndEmptyAreOne(t *testing.T) {
	of, e := frame.Wrap(nil)
	same, f := frame.Wrap([]byte{})
	if !bytes.Equal(of, same) || e != f {
		t.Errorf("R4: Wrap of nil = %v, %d, and of no bytes %v, %d", of, e, same, f)
	}
	for _, b := range [][]byte{nil, {}} {
		if payload, n, e := frame.First(b); e != api.ErrCut || n != 0 || len(payload) != 0 {
			t.Errorf("R4: First(%v) = %v, %d, %d", b, payload, n, e)
		}
		if payloads, ends, e := frame.Scan(b); e != api.OK || len(payloads) != 0 || len(ends) != 0 {
			t.Errorf("R4: Scan(%v) = %v, %v, %d", b, payloads, ends, e)
		}
	}
}
