package cursor_test

import (
	"fmt"
	"maps"
	"math/rand"
	"slices"
	"strings"
	"testing"

	"cairn/api"
	"cairn/grow"
	"cairn/node"
	"cairn/octet"
)

// someKey tells a key: some are dense, some long, some begin as others do.
func someKey(rnd *rand.Rand, kind int) string {
	switch kind {
	case 0: // few digits, short: beginnings of one another
		b := make([]byte, rnd.Intn(5))
		for i := range b {
			b[i] = []byte{0x00, 0x01, 0x10, 0x11, 0xf1, 0xff}[rnd.Intn(6)]
		}
		return string(b)
	case 1: // anything
		b := make([]byte, rnd.Intn(33))
		rnd.Read(b)
		return string(b)
	case 2: // the longest ones, with long beginnings in common
		b := []byte(unhex(deep[:64]))
		for range rnd.Intn(3) {
			b[rnd.Intn(32)] ^= byte(1 << rnd.Intn(8))
		}
		return string(b)
	}
	return strings.Repeat("\x77", rnd.Intn(33)) // one behind the other
}

func someValue(rnd *rand.Rand) string {
	size := []int{1, 2, 20, 31, 32, 33, 55, 56, 255, 256, 1 + rnd.Intn(256)}[rnd.Intn(11)]
	return strings.Repeat(string([]byte{byte(1 + rnd.Intn(255))}), size)
}

func someMap(rnd *rand.Rand) map[string]string {
	entries := map[string]string{}
	kind := rnd.Intn(5)
	for range rnd.Intn(30) {
		k := kind
		if kind == 4 {
			k = rnd.Intn(4)
		}
		entries[someKey(rnd, k)] = someValue(rnd)
	}
	return entries
}

// near tells a key that is a map's, or is like one, or any.
func near(rnd *rand.Rand, entries map[string]string) string {
	key := ""
	if len(entries) > 0 {
		key = slices.Sorted(maps.Keys(entries))[rnd.Intn(len(entries))]
	}
	switch rnd.Intn(6) {
	case 0:
		return key[:rnd.Intn(len(key)+1)]
	case 1:
		b := []byte(key)
		if len(b) > 0 {
			b[rnd.Intn(len(b))] ^= byte(1 << rnd.Intn(8))
		}
		return string(b)
	case 2:
		long := key + someKey(rnd, 0)
		return long[:min(32, len(long))]
	case 3:
		return someKey(rnd, rnd.Intn(4))
	}
	return key
}

func someBounds(rnd *rand.Rand, entries map[string]string) bounds {
	if rnd.Intn(3) == 0 {
		return from(near(rnd, entries))
	}
	low, high := near(rnd, entries), near(rnd, entries)
	if low > high && rnd.Intn(6) > 0 {
		low, high = high, low
	}
	return within(low, high)
}

func rounds(most int) int {
	if testing.Short() {
		return most / 10
	}
	return most
}

// sortedWithin tells the entries of a map within bounds, by their keys rising.
func sortedWithin(entries map[string]string, b bounds) []pair {
	var out []pair
	for _, key := range slices.Sorted(maps.Keys(entries)) {
		if octet.Within([]byte(key), api.Bounds{From: []byte(b.from), To: []byte(b.to), Open: b.open}) {
			out = append(out, pair{key, entries[key]})
		}
	}
	return out
}

// inOrder tells the hashes below a root, each once for each place, in the order of a walk.
func inOrder(src *shelf, root api.Hash) []api.Hash {
	out := []api.Hash{root}
	hashes, _ := node.Hashes([]byte(src.blobs[root]))
	for _, h := range hashes {
		out = append(out, inOrder(src, h)...)
	}
	return out
}

// A scan without bounds tells the map, and reads each node just once for each place at which it stands.
func TestWholeMaps(t *testing.T) {
	rnd := rand.New(rand.NewSource(131))
	for round := range rounds(150) {
		r := newRig(t, []int{256, 255, 128, 64}[round%4])
		entries := someMap(rnd)
		root := r.plant(entries)
		want := sortedWithin(entries, from(""))
		for _, limit := range []int{len(want), len(want) + 1, 1000} {
			got, more, e := r.scan("13.5", root, from(""), limit)
			if !slices.Equal(got, want) || more || e != api.OK {
				t.Fatalf("13.5: %d entries of %d, %v, %d", len(got), len(want), more, e)
			}
			if len(want) > 0 && !slices.Equal(r.src.asked, inOrder(r.src, root)) {
				t.Fatalf("13.7: not each node is read once for each place: %d reads", len(r.src.asked))
			}
		}
		if !r.book.Sound() {
			t.Fatalf("the book of %d bits is not sound", r.bits)
		}
	}
}

// Within any bounds, with any limit, and then from behind the last one on.
func TestAnyBounds(t *testing.T) {
	rnd := rand.New(rand.NewSource(132))
	for range rounds(100) {
		r := newRig(t, 256)
		entries := someMap(rnd)
		root := r.plant(entries)
		places := map[api.Hash]int{}
		if len(entries) > 0 {
			for _, h := range inOrder(r.src, root) {
				places[h]++
			}
		}
		for range 20 {
			b := someBounds(rnd, entries)
			want := sortedWithin(entries, b)
			limit := rnd.Intn(len(want) + 2)
			got, more, e := r.scan("13.5", root, b, limit)
			if !slices.Equal(got, want[:min(limit, len(want))]) || more != (limit < len(want)) || e != api.OK {
				t.Fatalf("13.5: %v, limit %d: %d entries of %d, %v, %d", b, limit, len(got), len(want), more, e)
			}
			read := map[api.Hash]int{}
			for _, h := range r.src.asked {
				if read[h]++; read[h] > places[h] {
					t.Fatalf("13.7: a node is read %d times and stands at %d places", read[h], places[h])
				}
			}
			if len(got) == 0 || len(got[len(got)-1].key) == 32 {
				continue
			}
			rest := b
			rest.from = got[len(got)-1].key + "\x00"
			if behind, more, e := r.scan("13.5: the rest", root, rest, 99); !slices.Equal(append(got, behind...), want) || more || e != api.OK {
				t.Fatalf("13.5: %v: %d entries and then %d are not %d: %d", b, len(got), len(behind), len(want), e)
			}
		}
	}
}

// A node that stands at several places is read at each of them.
func TestOneNodeAtSeveralPlaces(t *testing.T) {
	r := newRig(t, 256)
	root := r.plant(map[string]string{"\x11": long, "\x21": long, "\x31": long, "\x32": long, "\x41\x11": long, "\x41\x21": long, "\x42\x11": long, "\x42\x21": long})
	if len(r.src.blobs) != 6 {
		t.Fatalf("the trie has %d nodes by their hashes", len(r.src.blobs))
	}
	twice := func(what string, b bounds, read int, keys ...string) {
		t.Helper()
		r.tells("13.7: "+what, root, b, 99, read, false, keys...)
	}
	twice("all", from(""), 13, "\x11", "\x21", "\x31", "\x32", "\x41\x11", "\x41\x21", "\x42\x11", "\x42\x21")
	twice("the leaf at two places", within("\x10", "\x30"), 4, "\x11", "\x21")
	twice("the branch at two places", within("\x40", "\x50"), 8, "\x41\x11", "\x41\x21", "\x42\x11", "\x42\x21")
}

// Forth and back: 13.6.
func TestForthAndBack(t *testing.T) {
	rnd := rand.New(rand.NewSource(135))
	for range rounds(100) {
		r := newRig(t, 256)
		entries := someMap(rnd)
		root := r.plant(entries)
		want := sortedWithin(entries, from(""))
		r.stand(root)
		var there, back []pair
		for e := r.seek("13.6", ""); e == api.OK; e = r.next("13.6") {
			there = append(there, r.here)
		}
		for e := r.last("13.6"); e == api.OK; e = r.prev("13.6") {
			back = append([]pair{r.here}, back...)
		}
		if !slices.Equal(there, want) || !slices.Equal(back, want) {
			t.Fatalf("13.6: %d entries forth, %d back, not %d", len(there), len(back), len(want))
		}
		r.stand(root)
		for range 20 {
			key := near(rnd, entries)
			at, _ := slices.BinarySearchFunc(want, key, func(p pair, k string) int { return strings.Compare(p.key, k) })
			was := r.here
			if e := r.seek("13.2", key); e == api.OK != (at < len(want)) || e == api.OK && r.here != want[at] || e != api.OK && r.here != was {
				t.Fatalf("13.2: Seek of %x: %d, at %x", key, e, r.here.key)
			}
			was = r.here
			if r.next("13.6") == api.OK {
				if e := r.prev("13.6"); e != api.OK || r.here != was {
					t.Fatalf("13.6: Next and Prev from %x: %d, at %x", was.key, e, r.here.key)
				}
			}
			if r.prev("13.6") == api.OK {
				if e := r.next("13.6"); e != api.OK || r.here != was {
					t.Fatalf("13.6: Prev and Next from %x: %d, at %x", was.key, e, r.here.key)
				}
			}
		}
	}
}

// Any steps, one behind the other, go as a finger goes over the sorted entries.
func TestAnySteps(t *testing.T) {
	rnd := rand.New(rand.NewSource(136))
	for range rounds(100) {
		r := newRig(t, 256)
		entries := someMap(rnd)
		want := sortedWithin(entries, from(""))
		r.stand(r.plant(entries))
		at := -1
		for range 40 {
			to := at
			var e api.Errno
			switch rnd.Intn(6) {
			case 0:
				key := near(rnd, entries)
				to, _ = slices.BinarySearchFunc(want, key, func(p pair, k string) int { return strings.Compare(p.key, k) })
				e = r.seek("13.2", key)
			case 1:
				to = len(want) - 1
				e = r.last("13.2")
			case 2, 3:
				if at >= 0 {
					to = at + 1
				}
				e = r.next("13.2")
			default:
				to = at - 1
				e = r.prev("13.2")
			}
			if to < 0 || to >= len(want) {
				if e != api.ErrEnd {
					t.Fatalf("13.2: %d, where there is no entry", e)
				}
				to = at
			} else if e != api.OK {
				t.Fatalf("13.2: %d", e)
			}
			if at = to; r.stands != (at >= 0) || r.stands && r.here != want[at] {
				t.Fatalf("13.2: it stands at %x, not at entry %d", r.here.key, at)
			}
		}
	}
}

// Over a stage that has grown by puts and deletes a scan tells what is left.
func TestOverAStage(t *testing.T) {
	rnd := rand.New(rand.NewSource(137))
	for range rounds(40) {
		r := newRig(t, 256)
		entries := someMap(rnd)
		root := r.plant(entries)
		s, _ := grow.New(r.src, r.book)
		for range 15 {
			key := near(rnd, entries)
			var e api.Errno
			if rnd.Intn(2) == 0 {
				delete(entries, key)
				root, e = s.Delete(root, []byte(key))
			} else {
				entries[key] = someValue(rnd)
				root, e = s.Put(root, []byte(key), []byte(entries[key]))
			}
			if e != api.OK {
				t.Fatal(e)
			}
		}
		blobs, _ := s.Reach(root)
		for _, b := range blobs {
			r.src.blobs[b.Key] = string(b.Data)
		}
		if got, more, e := r.scan("13.5", root, from(""), 99); !slices.Equal(got, sortedWithin(entries, from(""))) || more || e != api.OK {
			t.Fatalf("13.5: %d entries of %d, %v, %d", len(got), len(entries), more, e)
		}
	}
}

// Keys of one byte, all of them, with values at their beginnings and behind them.
func TestFullTries(t *testing.T) {
	for _, value := range []string{"v", long} {
		entries := map[string]string{"": value}
		for i := range 256 {
			entries[string([]byte{byte(i)})] = value
			if i%5 == 0 {
				entries[string([]byte{byte(i), byte(i)})] = value
			}
		}
		r := newRig(t, 256)
		root := r.plant(entries)
		want := sortedWithin(entries, from(""))
		if got, more, e := r.scan("13.5", root, from(""), 1000); !slices.Equal(got, want) || more || e != api.OK {
			t.Fatalf("13.5: %d entries of %d, %v, %d", len(got), len(want), more, e)
		}
		for i := 0; i < 256; i += 17 {
			for j := 0; j < 256; j += 15 {
				b := within(string([]byte{byte(i)}), string([]byte{byte(j)}))
				if got, more, e := r.scan("13.5", root, b, 7); len(got) != min(7, len(sortedWithin(entries, b))) || more != (len(sortedWithin(entries, b)) > 7) || e != api.OK {
					t.Fatalf("13.5: %v: %d entries, %v, %d", b, len(got), more, e)
				}
			}
		}
	}
}

// someNode tells a node that may be, but need not stand in the trie of any map; what it leads to stands on the shelf, or not.
func someNode(rnd *rand.Rand, r *rig, pool []string) string {
	refOf := func() string {
		b := pool[rnd.Intn(len(pool))]
		if len(b) < 32 && rnd.Intn(12) > 0 {
			return b
		}
		return r.byHash(b)
	}
	path := ""
	for range rnd.Intn(4) {
		path += fmt.Sprint(rnd.Intn(2))
	}
	if rnd.Intn(12) == 0 {
		path += strings.Repeat("0", rnd.Intn(64-len(path)))
	}
	switch rnd.Intn(5) {
	case 0:
		return leaf(path, someValue(rnd))
	case 1:
		next := pool[rnd.Intn(len(pool))]
		if len(next) < 32 && len(next) > 17 { // a branch has seventeen items
			return ext(path+"0", next)
		}
		return ext(path+"1", r.byHash(next))
	}
	value := ""
	if rnd.Intn(3) == 0 {
		value = someValue(rnd)
	}
	kids := []kid{{0, refOf()}, {1, refOf()}}
	if rnd.Intn(4) == 0 {
		kids = append(kids, kid{rnd.Intn(16), sibling(rnd.Intn(2))})
	}
	return branch(value, kids...)
}

// Over any source at all, with books of few bits too, each call does what the chapter says.
func TestAnySource(t *testing.T) {
	rnd := rand.New(rand.NewSource(138))
	seen := map[api.Errno]int{}
	met := 0
	for round := range rounds(300) {
		r := newRig(t, []int{8, 9, 12, 256}[round%4])
		pool := []string{leaf("", "v"), leaf("0", "w"), leaf("01", "x"), leaf("1", long), branch("", kid{0, sibling(0)}, kid{1, sibling(0)})}
		for range 40 {
			pool = append(pool, someNode(rnd, r, pool[max(0, len(pool)-12):]))
		}
		for _, b := range pool {
			if rnd.Intn(40) > 0 {
				r.lay(b)
			}
		}
		key := func() string {
			b := make([]byte, rnd.Intn(6))
			for i := range b {
				b[i] = []byte{0x00, 0x01, 0x10, 0x11}[rnd.Intn(4)]
			}
			return string(b)
		}
		for range 10 {
			root := hashOf(r.bits, pool[rnd.Intn(len(pool))])
			_, _, e := r.scan("13.4", root, within(key(), key()), rnd.Intn(20))
			seen[e]++
			_, _, e = r.scan("13.4", root, from(key()), rnd.Intn(20))
			seen[e]++
			r.stand(root)
			for range 6 {
				switch rnd.Intn(5) {
				case 0:
					e = r.last("13.2")
				case 1:
					e = r.seek("13.2", key())
				case 2:
					e = r.next("13.2")
				case 3:
					e = r.prev("13.2")
				default:
					e = r.seek("13.2", strings.Repeat("\x11", rnd.Intn(35)))
				}
				seen[e]++
				if e == api.OK {
					met++
				}
			}
		}
	}
	for _, e := range []api.Errno{api.OK, api.ErrNode, api.ErrAbsent, api.ErrEnd, api.ErrInput} {
		if seen[e] < rounds(60) {
			t.Errorf("%d calls answered %d: too few to tell", seen[e], e)
		}
	}
	if met < rounds(300) {
		t.Errorf("%d calls went somewhere: too few to tell", met)
	}
}
