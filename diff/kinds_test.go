package diff_test

import (
	"fmt"
	"maps"
	"strings"
	"testing"

	"cairn/api"
)

// inBytes tells a map whose keys are told in digits.
func inBytes(entries map[string]string) map[string]string {
	out := map[string]string{}
	for k, v := range entries {
		out[unhex(k)] = v
	}
	return out
}

// pieces are maps whose tries are of every kind, for a place of so many nibbles: the keys are what lies behind the place.
func pieces(place int, value string) []map[string]string {
	odd := strings.Repeat("7", place%2)
	out := []map[string]string{
		{},
		{odd: value},
		{odd + "34": value},
		{odd + "3456": value + "+"},
		{odd + "34": value, odd + "35": value},
		{odd + "3456": value, odd + "3457": value + "+"},
		{odd + "34": value, odd + "3456": value},
		{odd + "34": value, odd + "3456": value, odd + "3466": value},
		{odd + "34": value, odd + "54": value},
		{odd: value, odd + "34": value},
		{odd: value, odd + "34": value, odd + "35": value, odd + "56": value},
	}
	if place%2 == 1 {
		out = append(out, map[string]string{"3": value}, map[string]string{"3": value, "4": value}, map[string]string{"3": value, "345": value, "4": value + "+"})
	}
	return out
}

// Every kind on the one side beside every kind on the other, whole and by their hashes, met there or come down from above.
func TestKindsSideBySide(t *testing.T) {
	for _, place := range []int{0, 1, 2, 3, 24, 25, 44, 57, 58} {
		t.Run(fmt.Sprint(place), func(t *testing.T) {
			t.Parallel()
			for _, values := range [][2]string{{"v", "v"}, {"v", "w"}, {"v", long}, {long, long}, {long, long + "?"}} {
				for i, a := range pieces(place, values[0]) {
					for j, b := range pieces(place, values[1]) {
						if testing.Short() && (i+j+place)%5 > 0 {
							continue
						}
						sideBySide(t, place, fmt.Sprintf("24.2: piece %d (%.3q) beside piece %d (%.3q) at %d", i, values[0], j, values[1], place), a, b)
					}
				}
			}
		})
	}
}

// sideBySide holds two pieces against one another: alone, with something beside one of them, with something beside both.
func sideBySide(t *testing.T, place int, what string, a, b map[string]string) {
	t.Helper()
	way := deep[:place]
	at := func(piece map[string]string, beside ...string) map[string]string {
		out := map[string]string{}
		for k, v := range piece {
			out[way+k] = v
		}
		for _, k := range beside {
			out[k] = "beside"
		}
		return out
	}
	beside := strings.Repeat("e", 2*(place/2)+2) // parts with the way at its last nibble, or at the first
	if place > 1 {
		beside = way[:place-1] + "e" + strings.Repeat("5", place%2)
	}
	r := newRig(t, 256)
	r.maps(what, inBytes(at(a)), inBytes(at(b)))
	r.maps(what+", something beside one", inBytes(at(a, beside)), inBytes(at(b)))
	r.maps(what+", something beside both", inBytes(at(a, beside)), inBytes(at(b, beside)))
	r.maps(what+", something beside both, and far from it", inBytes(at(a, beside)), inBytes(at(b, beside, "ff")))
}

// Rests that are the same in part: of two leaves, of two extensions, of a leaf and an extension, for every number of nibbles in common.
func TestRestsInPart(t *testing.T) {
	t.Parallel()
	for k := range 64 {
		other := deep[:k] + fmt.Sprintf("%x", (nibble(deep[k])+1)%16)
		other += deep[len(other):64]
		short := other[:(k+2)/2*2] // as short as it may be
		one, two := keyOf(deep[:64]), keyOf(other)
		r := newRig(t, 256)
		what := fmt.Sprintf("24.2: %d nibbles in common", k)
		for _, v := range []string{"v", long} {
			r.maps(what+", two leaves", map[string]string{one: v}, map[string]string{two: v})
			r.maps(what+", a leaf and a shorter one", map[string]string{one: v}, map[string]string{keyOf(short): v})
			r.maps(what+", a leaf and one at its beginning", map[string]string{one: v}, map[string]string{keyOf(deep[:k]): v})
			r.maps(what+", a leaf and an extension", map[string]string{one: v}, map[string]string{one: v, two: v})
			r.maps(what+", a leaf and an extension without it", map[string]string{one: v}, map[string]string{two: v, keyOf(short): "w"})
			r.maps(what+", under a branch", map[string]string{one: v, "\xff": "f"}, map[string]string{two: v, "\xff": "f"})
			r.maps(what+", and the rest of the other is met", map[string]string{one: v, two: v}, map[string]string{two: v})
		}
	}
}

func TestExtensionsInPart(t *testing.T) {
	t.Parallel()
	fork := func(i int, value string) map[string]string { // parts at a nibble
		other := deep[:i] + fmt.Sprintf("%x", (nibble(deep[i])+3)%16) + deep[i+1:64]
		return map[string]string{keyOf(deep[:64]): value, keyOf(other): value}
	}
	for i := range 64 {
		for j := range 64 {
			if (5*i+3*j)%7 > 0 && i != j && j != i+1 {
				continue
			}
			r := newRig(t, 256)
			what := fmt.Sprintf("24.2: an extension of %d nibbles and one of %d", i, j)
			r.maps(what, fork(i, "v"), fork(j, "v"))
			r.maps(what+", of other values", fork(i, "v"), fork(j, long))
			both := fork(i, long)
			maps.Copy(both, fork(j, long))
			r.maps(what+", the one with all of the other", fork(i, long), both)
		}
	}
}

// The same rest, reached from above on the one side and met on the other, is the same.
func TestTheSameRestFromAboveAndMet(t *testing.T) {
	r := newRig(t, 256)
	for _, value := range []string{"v", long} {
		old := r.plant(map[string]string{"\x12\x34": value})
		now := r.plant(map[string]string{"\x12\x34": value, "\x71": "beside"})
		r.tells("24.2: a leaf", old, now, 1+len(r.spots(now)), delta{"\x71", "", "beside", false, true})
		old = r.plant(map[string]string{"\x12\x34": value, "\x12\x35": value})
		now = r.plant(map[string]string{"\x12\x34": value, "\x12\x35": value, "\x71": "beside"})
		if ds, e := r.both("24.2: an extension", old, now); len(ds) != 1 || ds[0].key != "\x71" || e != api.OK {
			t.Errorf("24.2: an extension: %v, %d", ds, e)
		}
	}
}

// Two extensions with one rest over one hash, in nodes that differ: it is not read.
func TestOneExtensionInTwoNodes(t *testing.T) {
	r := newRig(t, 256)
	below := map[string]string{"\x12\x34\x56": long, "\x12\x34\x57": long + "2"}
	old := r.plant(below)
	now := r.plant(with(below, "\x12\x77", "v"))
	fork := hashOf(256, branch("", kid{6, r.byHash(leaf("", long))}, kid{7, r.byHash(leaf("", long+"2"))}))
	if _, there := r.src.blobs[fork]; !there {
		t.Fatal("the branch does not stand where it should")
	}
	for _, lost := range []bool{false, true} {
		if lost {
			delete(r.src.blobs, fork)
		}
		// the old side reads its root, an extension of five nibbles; the new one its own, its branch, and the extension of two
		r.tells("24.6: what lies behind both", old, now, 4, delta{"\x12\x77", "", "v", false, true})
	}
}
