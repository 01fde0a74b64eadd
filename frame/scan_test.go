package frame_test

import (
	"bytes"
	"math/rand"
	"slices"
	"sync"
	"testing"

	"cairn/api"
	"cairn/frame"
)

// several tells lists of payloads: none, one, many, empty ones, the longest, ones that look like frames.
func several() [][][]byte {
	inner, _ := wantWrap([]byte{7, 8})
	return [][][]byte{
		{}, {{}}, {{9}}, {{0}}, {{202}}, {{}, {}, {}}, {{1}, {}, {2, 3}}, {{}, {1}, {}}, {inner, {}, inner},
		{inner[:7], inner[:8], {202, 202}}, {some(255), some(256), some(257)}, {some(greatest)}, {{4}, some(greatest), {5}},
		slices.Repeat([][]byte{{}}, 100), slices.Repeat([][]byte{{1, 2, 3}}, 100),
	}
}

func TestScanOfFrames(t *testing.T) {
	for _, want := range several() {
		b := wrapAll(t, want)
		payloads, ends, e := frame.Scan(b)
		if e != api.OK || !slices.EqualFunc(payloads, want, bytes.Equal) {
			t.Errorf("P9.5: Scan of %d frames = %d payloads, %d", len(want), len(payloads), e)
		}
		end := 0
		for i, p := range want {
			end += 7 + len(p)
			if i >= len(ends) || ends[i] != end {
				t.Errorf("P9.4: Scan of %d frames tells the ends %v, and not %d at %d", len(want), ends, end, i)
			}
		}
		checkScan(t, b)
	}
}

// TestScanOfEachBeginning looks at what a torn end leaves.
func TestScanOfEachBeginning(t *testing.T) {
	for _, want := range several() {
		b := wrapAll(t, want)
		_, places, _ := frame.Scan(b)
		step := 1 + len(b)/3000
		for n := 0; n <= len(b); n += step {
			checkBeginning(t, b[:n], want, places)
		}
		for _, place := range places {
			for n := place - 8; n <= place+8; n++ {
				if n >= 0 && n <= len(b) {
					checkBeginning(t, b[:n], want, places)
				}
			}
		}
	}
}

// checkBeginning looks at a Scan of a beginning of the frames of payloads that end at places.
func checkBeginning(t *testing.T, b []byte, want [][]byte, places []int) {
	t.Helper()
	within, wrong := 0, api.ErrCut
	for _, place := range places {
		if place <= len(b) {
			within++
		}
	}
	if len(b) == 0 || within > 0 && places[within-1] == len(b) {
		wrong = api.OK
	}
	payloads, ends, e := frame.Scan(b)
	if e != wrong || !slices.Equal(ends, places[:within]) || !slices.EqualFunc(payloads, want[:within], bytes.Equal) {
		t.Errorf("P9.5: Scan of the first %d bytes of %d frames = %d payloads, ends %v, %d, not %d payloads, ends %v, %d", len(b), len(want), len(payloads), ends, e, within, places[:within], wrong)
	}
	checkScan(t, b)
}

// TestScanOfWhateverStandsBehind looks at frames with something behind them.
func TestScanOfWhateverStandsBehind(t *testing.T) {
	inner, _ := wantWrap([]byte{7, 8})
	for _, want := range several() {
		b := wrapAll(t, want)
		_, places, _ := frame.Scan(b)
		for _, c := range []struct {
			behind []byte
			e      api.Errno
		}{
			{[]byte{202}, api.ErrCut},
			{[]byte{202, 0, 0, 0, 255, 255}, api.ErrCut},
			{inner[:8], api.ErrCut},
			{[]byte{202, 202}, api.ErrCut},
			{bytes.Repeat([]byte{202}, 40), api.ErrMark},
			{[]byte{0}, api.ErrMark},
			{make([]byte, 7), api.ErrMark},
			{make([]byte, 500), api.ErrMark},
			{append([]byte{0}, inner...), api.ErrMark},
			{append([]byte{201}, inner...), api.ErrMark},
			{append(headed(16385), make([]byte, 16385)...), api.ErrMark},
			{append([]byte{202, 0, 0, 2, 255, 255, 254, 7, 8}, inner...), api.ErrMark},
			{[]byte("rubbish"), api.ErrMark},
		} {
			payloads, ends, e := frame.Scan(append(slices.Clone(b), c.behind...))
			if e != c.e || !slices.Equal(ends, places) || !slices.EqualFunc(payloads, want, bytes.Equal) {
				t.Errorf("P9.6: Scan of %d frames with %v behind them = %d payloads, ends %v, %d, not ends %v, %d", len(want), brief(c.behind), len(payloads), ends, e, places, c.e)
			}
			checkScan(t, append(slices.Clone(b), c.behind...))
		}
	}
}

// TestScanOfWhatWasWiped wipes each frame of several, whole or its first byte alone.
func TestScanOfWhatWasWiped(t *testing.T) {
	want := [][]byte{{1}, {}, some(300), {0, 0}, {}, {202}}
	b := wrapAll(t, want)
	_, ends, _ := frame.Scan(b)
	begin := 0
	for i, end := range ends {
		for _, wiped := range []int{1, 7, end - begin} {
			c := slices.Clone(b)
			clear(c[begin : begin+wiped])
			for _, left := range [][]byte{c[begin:], c[begin:end], c[begin : begin+1]} {
				if payload, n, e := frame.First(left); e != api.ErrMark || n != 0 || len(payload) != 0 {
					t.Errorf("P9.7: First where %d bytes of frame %d were wiped = %v, %d, %d, not none, 0, ErrMark", wiped, i, payload, n, e)
				}
			}
			payloads, places, e := frame.Scan(c)
			if e != api.ErrMark || !slices.Equal(places, ends[:i]) || !slices.EqualFunc(payloads, want[:i], bytes.Equal) {
				t.Errorf("P9.7: Scan where %d bytes of frame %d were wiped = %d payloads, ends %v, %d, not ends %v, ErrMark", wiped, i, len(payloads), places, e, ends[:i])
			}
		}
		begin = end
	}
	for length := 1; length < 600; length++ {
		if payload, n, e := frame.First(make([]byte, length)); e != api.ErrMark || n != 0 || len(payload) != 0 {
			t.Errorf("P9.7: First of %d zeros = %v, %d, %d, not none, 0, ErrMark", length, payload, n, e)
		}
		if payloads, ends, e := frame.Scan(make([]byte, length)); e != api.ErrMark || len(payloads) != 0 || len(ends) != 0 {
			t.Errorf("P9.7: Scan of %d zeros = %v, %v, %d, not none, ErrMark", length, payloads, ends, e)
		}
	}
}

// TestShortBytes goes through all short strings of bytes that a head is made of.
func TestShortBytes(t *testing.T) {
	most := 8
	if testing.Short() {
		most = 6
	}
	letters := []byte{202, 0, 255, 1, 254}
	var grow func(b []byte)
	grow = func(b []byte) {
		checkFirst(t, b)
		checkScan(t, b)
		for _, c := range letters {
			if len(b) < most {
				grow(append(b, c))
			}
		}
	}
	grow(make([]byte, 0, most))
	for first := range 256 {
		for second := range 256 {
			checkFirst(t, []byte{byte(first), byte(second)})
		}
	}
}

// TestHeads goes through heads whose lengths agree or do not, with few bytes behind them.
func TestHeads(t *testing.T) {
	edge := []byte{0, 1, 2, 63, 64, 65, 127, 128, 190, 191, 192, 254, 255}
	b := make([]byte, 9)
	b[0] = 202
	for _, x := range edge {
		for _, y := range edge {
			for _, z := range edge {
				for change := range 8 {
					b[1], b[2], b[3] = x, y, z
					b[4], b[5], b[6] = 255-x, 255-y, 255-z
					b[4] ^= byte(change & 1)
					b[5] ^= byte(change & 2)
					b[6] ^= byte(change & 4)
					checkFirst(t, b)
					checkScan(t, b)
				}
			}
		}
	}
}

// TestRandomLogs turns, cuts and lengthens frames wherever.
func TestRandomLogs(t *testing.T) {
	rounds := 4000
	if testing.Short() {
		rounds = 400
	}
	r := rand.New(rand.NewSource(9))
	for range rounds {
		want := somePayloads(r, 8)
		for _, p := range want {
			checkWrap(t, p)
		}
		b := wrapAll(t, want)
		if payloads, _, e := frame.Scan(b); e != api.OK || !slices.EqualFunc(payloads, want, bytes.Equal) {
			t.Errorf("P9.5: Scan of %d frames = %d payloads, %d", len(want), len(payloads), e)
		}
		checkScan(t, b)
		_, ends, _ := frame.Scan(b)
		checkBeginning(t, b[:r.Intn(len(b)+1)], want, ends)
		rubbish := make([]byte, r.Intn(20))
		r.Read(rubbish)
		checkBehind(t, b, rubbish, want)
		for range 8 {
			if len(b) > 0 {
				b[r.Intn(len(b))] ^= byte(1 + r.Intn(255))
			}
			checkFirst(t, b)
			checkScan(t, b)
		}
	}
}

// checkBehind looks whether Scan tells the whole frames first, whatever stands behind them.
func checkBehind(t *testing.T, b, behind []byte, want [][]byte) {
	t.Helper()
	payloads, ends, _ := frame.Scan(append(slices.Clone(b), behind...))
	if len(payloads) < len(want) || !slices.EqualFunc(payloads[:len(want)], want, bytes.Equal) {
		t.Errorf("P9.6: Scan of %d frames with %v behind them tells %d payloads", len(want), behind, len(payloads))
	} else if len(want) > 0 && ends[len(want)-1] != len(b) {
		t.Errorf("P9.6: Scan of %d frames with %v behind them tells the ends %v", len(want), behind, ends)
	}
	checkScan(t, append(slices.Clone(b), behind...))
}

func TestSideBySide(t *testing.T) {
	b := append(wrapAll(t, [][]byte{{1}, {}, some(300)}), 202)
	var all sync.WaitGroup
	for range 8 {
		all.Go(func() {
			for range 50 {
				checkWrap(t, b)
				checkFirst(t, b)
				checkScan(t, b)
			}
		})
	}
	all.Wait()
}
