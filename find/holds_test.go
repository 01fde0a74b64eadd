package find_test

import (
	"fmt"
	"maps"
	"math/rand"
	"slices"
	"strings"
	"testing"

	"cairn/api"
)

// someKey tells a key: some are dense, some long, some begin as others do.
func someKey(rnd *rand.Rand, kind int) string {
	switch kind {
	case 0: // few digits, short: beginnings of one another
		b := make([]byte, rnd.Intn(5))
		for i := range b {
			b[i] = []byte{0x00, 0x01, 0x10, 0x11, 0xf1}[rnd.Intn(5)]
		}
		return string(b)
	case 1: // anything
		b := make([]byte, rnd.Intn(33))
		rnd.Read(b)
		return string(b)
	case 2: // the longest ones, with long beginnings in common
		b := []byte(unhex(deep[:64]))
		for range rnd.Intn(3) {
			b[rnd.Intn(32)] ^= byte(1 << rnd.Intn(8))
		}
		return string(b)
	}
	return strings.Repeat("\x77", rnd.Intn(33)) // one behind the other
}

func someValue(rnd *rand.Rand) string {
	size := []int{1, 2, 20, 31, 32, 33, 55, 56, 255, 256, 1 + rnd.Intn(256)}[rnd.Intn(11)]
	return strings.Repeat(string([]byte{byte(1 + rnd.Intn(255))}), size)
}

func someMap(rnd *rand.Rand) map[string]string {
	entries := map[string]string{}
	kind := rnd.Intn(5)
	for range rnd.Intn(40) {
		k := kind
		if kind == 4 {
			k = rnd.Intn(4)
		}
		entries[someKey(rnd, k)] = someValue(rnd)
	}
	return entries
}

// around tells a map's keys, those just beside them, and some others, in one order for one map.
func around(rnd *rand.Rand, entries map[string]string) []string {
	out := []string{"", "\x00", "\xff", strings.Repeat("\x00", 32), strings.Repeat("\xff", 32)}
	for _, k := range slices.Sorted(maps.Keys(entries)) {
		out = append(out, k)
		if len(k) > 0 {
			at := rnd.Intn(len(k))
			other := []byte(k)
			other[at] ^= byte(1 << rnd.Intn(8))
			out = append(out, k[:len(k)-1], k[:at], string(other))
		}
		if len(k) < 32 {
			out = append(out, k+string([]byte{byte(rnd.Intn(256))}))
		}
	}
	for kind := range 4 {
		out = append(out, someKey(rnd, kind))
	}
	return out
}

func rounds(most int) int {
	if testing.Short() {
		return most / 10
	}
	return most
}

func TestWholeTries(t *testing.T) {
	rnd := rand.New(rand.NewSource(11))
	for round := range rounds(80) {
		r := newRig(t, []int{256, 255, 64, 40}[round%4])
		entries := someMap(rnd)
		root := r.plant(entries)
		for _, key := range around(rnd, entries) {
			value, there := entries[key]
			a := r.ask("P11.4", root, key)
			if a.value != value || a.found != there || a.e != api.OK {
				t.Fatalf("P11.4: a map of %d entries has %.20q (%v) of %x, but: %v", len(entries), value, there, key, a)
			}
			if len(entries) > 0 && (len(a.asked) == 0 || a.asked[0] != root) {
				t.Fatalf("P11.3: the root is not read first: %v", a)
			}
		}
		if !r.book.Sound() {
			t.Fatalf("the book of %d bits is not sound", r.bits)
		}
	}
}

// Each key of a full trie of two nibbles, and of one with values at every other step.
func TestAllKeysOfAByte(t *testing.T) {
	for _, value := range []string{"v", long} {
		r := newRig(t, 256)
		all, half := map[string]string{}, map[string]string{"": value}
		for i := range 256 {
			all[string([]byte{byte(i)})] = value
			if i%2 == 0 {
				half[string([]byte{byte(i)})] = value
				half[string([]byte{byte(i), byte(i)})] = value
			}
		}
		for _, entries := range []map[string]string{all, half} {
			root := r.plant(entries)
			for i := range 256 {
				for _, key := range []string{"", string([]byte{byte(i)}), string([]byte{byte(i), byte(i)}), string([]byte{byte(i), 1})} {
					if a := r.ask("P11.4", root, key); a.value != entries[key] || a.found != (entries[key] != "") || a.e != api.OK {
						t.Fatalf("P11.4: %x: %v", key, a)
					}
				}
			}
		}
	}
}

// A trail is enough, and all of it is needed.
func TestTrailsAreEnough(t *testing.T) {
	rnd := rand.New(rand.NewSource(12))
	for range rounds(50) {
		r := newRig(t, 256)
		entries := someMap(rnd)
		root := r.plant(entries)
		for _, key := range around(rnd, entries) {
			a := r.ask("P11.4", root, key)
			alone := &rig{t: t, bits: 256, book: newBook(t, 256), src: newShelf()}
			for _, b := range a.trail {
				alone.lay(b)
			}
			if len(alone.src.blobs) != len(a.trail) {
				t.Fatalf("P11.5: a node stands twice in the trail of %x", key)
			}
			if b := alone.ask("P11.5", root, key); !b.same(a) {
				t.Fatalf("P11.5: the trail of %x answers %v, not %v", key, b, a)
			}
			if len(a.trail) == 0 {
				continue
			}
			at := rnd.Intn(len(a.trail))
			delete(alone.src.blobs, hashOf(256, a.trail[at]))
			alone.refused("P11.5: no node stands in the trail that is not on the way", root, key, api.ErrNode, at+1)
		}
	}
}

// Over a source that is not honest an answer is the map's, or an error.
func TestRightOrAnError(t *testing.T) {
	rnd := rand.New(rand.NewSource(13))
	for range rounds(100) {
		r := newRig(t, 256)
		entries := someMap(rnd)
		root := r.plant(entries)
		hs := slices.SortedFunc(maps.Keys(r.src.blobs), func(a, b api.Hash) int { return strings.Compare(string(a[:]), string(b[:])) })
		for range 1 + len(hs)/4 {
			if len(hs) == 0 {
				break
			}
			h, other := hs[rnd.Intn(len(hs))], hs[rnd.Intn(len(hs))]
			switch rnd.Intn(4) {
			case 0:
				delete(r.src.blobs, h)
			case 1:
				r.src.blobs[h] = r.src.blobs[other]
			case 2:
				r.src.errs[h] = api.Errno(rnd.Intn(330))
			default:
				b := []byte(r.src.blobs[h] + " ")
				b[rnd.Intn(len(b))] ^= byte(1 << rnd.Intn(8))
				r.src.blobs[h] = string(b)
			}
		}
		for _, key := range around(rnd, entries) {
			a := r.ask("P11.1", root, key)
			if a.e == api.OK && (a.value != entries[key] || a.found != (entries[key] != "")) {
				t.Fatalf("P11.4: %x: %v, but the map has %.20q", key, a, entries[key])
			}
		}
	}
}

// someNode tells a node that may be, but need not stand in the trie of any map; what it leads to stands on the shelf, or not.
func someNode(rnd *rand.Rand, r *rig, pool []string) string {
	refOf := func(most int) string {
		b := pool[rnd.Intn(len(pool))]
		if len(b) < 32 && most > len(b) && rnd.Intn(8) > 0 {
			return b
		}
		return r.byHash(b)
	}
	path := ""
	for range rnd.Intn(4) {
		path += fmt.Sprint(rnd.Intn(2))
	}
	if rnd.Intn(12) == 0 {
		path += strings.Repeat("0", rnd.Intn(64-len(path)))
	}
	switch rnd.Intn(5) {
	case 0:
		return leaf(path, someValue(rnd))
	case 1, 2:
		next := pool[rnd.Intn(len(pool))]
		if len(next) < 32 && len(next) > 17 { // a branch has seventeen items
			return ext(path+"0", next)
		}
		return ext(path+"1", r.byHash(next))
	}
	value := ""
	if rnd.Intn(3) == 0 {
		value = someValue(rnd)
	}
	kids := []kid{{0, refOf(32)}, {1, refOf(32)}}
	if rnd.Intn(4) == 0 {
		kids = append(kids, kid{rnd.Intn(16), sibling})
	}
	return branch(value, kids...)
}

// Over any source at all both calls answer what the chapter says.
func TestAnySource(t *testing.T) {
	rnd := rand.New(rand.NewSource(14))
	found, refused, none, deepest := 0, 0, 0, 0
	for round := range rounds(240) {
		r := newRig(t, []int{8, 9, 12, 256}[round%4])
		pool := []string{leaf("", "v"), leaf("0", "w"), leaf("01", "x"), leaf("1", long), branch("", kid{0, sibling}, kid{1, sibling})}
		for range 60 {
			pool = append(pool, someNode(rnd, r, pool[max(0, len(pool)-12):]))
		}
		for _, b := range pool {
			if rnd.Intn(40) > 0 {
				r.lay(b)
			}
		}
		for range 60 {
			b := make([]byte, rnd.Intn(7))
			for i := range b {
				b[i] = []byte{0x00, 0x01, 0x10, 0x11}[rnd.Intn(4)]
			}
			if rnd.Intn(9) == 0 {
				b = append(b, make([]byte, 32-len(b))...)
			}
			a := r.ask("P11.1", hashOf(r.bits, pool[rnd.Intn(len(pool))]), string(b))
			switch {
			case a.e != api.OK:
				refused++
			case a.found:
				found++
			default:
				none++
			}
			deepest = max(deepest, len(a.asked))
		}
	}
	if few := rounds(1200); found < few/4 || refused < few || none < few || deepest < 4 {
		t.Errorf("these sources are not of many kinds: %d found, %d refused, %d nothing, at most %d asked for", found, refused, none, deepest)
	}
}
