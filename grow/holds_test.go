package grow_test

import (
	"fmt"
	"maps"
	"math/rand"
	"slices"
	"strings"
	"testing"

	"cairn/api"
)

// someKey tells a key: some are dense, some long, some begin as others do.
func someKey(rnd *rand.Rand, kind int) string {
	switch kind {
	case 0: // few digits, short: beginnings of one another
		b := make([]byte, rnd.Intn(5))
		for i := range b {
			b[i] = []byte{0x00, 0x01, 0x10, 0x11, 0xf1}[rnd.Intn(5)]
		}
		return string(b)
	case 1: // anything
		b := make([]byte, rnd.Intn(33))
		rnd.Read(b)
		return string(b)
	case 2: // the longest ones, with long beginnings in common
		b := []byte(unhex(deep[:64]))
		for range rnd.Intn(3) {
			b[rnd.Intn(32)] ^= byte(1 << rnd.Intn(8))
		}
		return string(b)
	}
	return strings.Repeat("\x77", rnd.Intn(33)) // one behind the other
}

func someValue(rnd *rand.Rand) string {
	size := []int{1, 2, 20, 31, 32, 33, 55, 56, 255, 256, 1 + rnd.Intn(256)}[rnd.Intn(11)]
	return strings.Repeat(string([]byte{byte(1 + rnd.Intn(255))}), size)
}

func someMap(rnd *rand.Rand) map[string]string {
	entries := map[string]string{}
	kind := rnd.Intn(5)
	for range rnd.Intn(30) {
		k := kind
		if kind == 4 {
			k = rnd.Intn(4)
		}
		entries[someKey(rnd, k)] = someValue(rnd)
	}
	return entries
}

// oneOf tells one of a map's keys, the same for the same map and numbers.
func oneOf(rnd *rand.Rand, entries map[string]string) string {
	if len(entries) == 0 {
		return ""
	}
	return slices.Sorted(maps.Keys(entries))[rnd.Intn(len(entries))]
}

// near tells a key that is a map's, or is like one, or any.
func near(rnd *rand.Rand, entries map[string]string) string {
	key := oneOf(rnd, entries)
	switch rnd.Intn(6) {
	case 0:
		return key[:rnd.Intn(len(key)+1)]
	case 1:
		return (key + someKey(rnd, 0))[:min(32, len(key))]
	case 2:
		b := []byte(key)
		if len(b) > 0 {
			b[rnd.Intn(len(b))] ^= byte(1 << rnd.Intn(8))
		}
		return string(b)
	case 3:
		long := key + someKey(rnd, 0)
		return long[:min(32, len(long))]
	case 4:
		return someKey(rnd, rnd.Intn(4))
	}
	return key
}

// someChange tells a change of a map: about as many lead to it as away from it.
func someChange(rnd *rand.Rand, entries map[string]string) api.Change {
	if rnd.Intn(2) == 0 {
		return gone(near(rnd, entries))
	}
	key := near(rnd, entries)
	if value, there := entries[key]; there && rnd.Intn(3) == 0 {
		return put(key, value)
	}
	return put(key, someValue(rnd))
}

func rounds(most int) int {
	if testing.Short() {
		return most / 10
	}
	return most
}

// around tells some of a map's keys, some just beside them, and some others.
func around(rnd *rand.Rand, entries map[string]string) []string {
	out := []string{"", "\x00", strings.Repeat("\xff", 32)}
	for range 15 {
		out = append(out, near(rnd, entries))
	}
	return out
}

// Changes of every kind, over a source of a part and a stage of the rest.
func TestRandomChanges(t *testing.T) {
	rnd := rand.New(rand.NewSource(122))
	for round := range rounds(60) {
		r := newRig(t, []int{256, 255, 128, 64}[round%4])
		entries := someMap(rnd)
		root := r.plant(entries)
		for step := range 40 {
			if rnd.Intn(12) == 0 {
				r.settle()
			}
			changes := []api.Change{someChange(rnd, entries)}
			for rnd.Intn(3) == 0 {
				changes = append(changes, someChange(rnd, changed(entries, changes...)))
			}
			keys := around(rnd, entries)
			old, before := root, entries
			entries = changed(entries, changes...)
			got, e := r.do("12.3, 12.6", root, changes...)
			want, nodes := r.trie(entries)
			if e != api.OK || got != want {
				t.Fatalf("12.8: %s: %x, %d, not the root of the map of %d entries", tell(changes), got, e, len(entries))
			}
			root = got
			for _, c := range changes {
				keys = append(keys, string(c.Key))
			}
			if step%8 == 0 {
				keys = append(keys, slices.Sorted(maps.Keys(before))...)
			}
			holds(t, "12.9", r.stage, r.book, root, entries, keys...)
			holds(t, "12.9: the old root", r.stage, r.book, old, before, keys...)
			r.whole(root, nodes)
		}
		if !r.book.Sound() {
			t.Fatalf("the book of %d bits is not sound", r.bits)
		}
	}
}

// whole looks that the source with what Reach tells has all nodes of a trie, each with the right bytes, and that Reach tells none beside them.
func (r *rig) whole(root api.Hash, nodes map[string]string) {
	r.t.Helper()
	blobs := maps.Clone(r.src.blobs)
	stands := map[string]struct{}{}
	for _, encoding := range nodes {
		stands[encoding] = struct{}{}
	}
	for _, b := range r.reach("12.10", root) {
		blobs[b.Key] = string(b.Data)
		if _, in := stands[string(b.Data)]; !in {
			r.t.Fatalf("12.7, 12.10: Reach tells a node that does not stand in the trie")
		}
	}
	for place, encoding := range nodes {
		if (place == "" || len(encoding) >= 32) && blobs[hashOf(r.bits, encoding)] != encoding {
			r.t.Fatalf("12.10: the node at %q is missing", place)
		}
	}
}

// Whatever puts and deletes lead to a map, there is one root.
func TestOneRoot(t *testing.T) {
	rnd := rand.New(rand.NewSource(123))
	for range rounds(60) {
		r := newRig(t, 256)
		entries, others := someMap(rnd), someMap(rnd)
		want, _ := r.trie(entries)
		keys, strange := slices.Sorted(maps.Keys(entries)), slices.Sorted(maps.Keys(others))
		for way := range 5 {
			r.anew()
			root := r.empty()
			var changes []api.Change
			for _, key := range keys {
				changes = append(changes, put(key, entries[key]))
				if way > 1 {
					changes = append(changes, put(key, someValue(rnd)))
				}
			}
			if way > 2 {
				for _, key := range strange {
					changes = append(changes, put(key, someValue(rnd)), gone(key))
				}
			}
			switch way {
			case 0: // rising
			case 1:
				slices.Reverse(changes)
			default:
				rnd.Shuffle(len(changes), func(i, j int) { changes[i], changes[j] = changes[j], changes[i] })
				for _, key := range strange { // what is not in the map goes, what is gets its value
					changes = append(changes, gone(key))
				}
				for _, key := range keys {
					changes = append(changes, put(key, entries[key]))
				}
			}
			for len(changes) > 0 {
				n := min(len(changes), 1+rnd.Intn(4))
				next, e := r.stage.Apply(root, changes[:n])
				if e != api.OK {
					t.Fatalf("12.8: %d", e)
				}
				root, changes = next, changes[n:]
			}
			if root != want {
				t.Fatalf("12.8: another road to a map of %d entries, another root", len(entries))
			}
		}
	}
}

// All orders of a few puts, and all orders of their deletes.
func TestAllOrders(t *testing.T) {
	for _, keys := range [][]string{{"", "\x12", "\x13", "\x12\x34"}, {"\x11", "\x12", "\x21", "\x22"}, {"\x12\x34\x56", "\x12\x34\x57", "\x12\x35", "\x92"}} {
		for _, values := range [][]string{{"a", "b", "c", "d"}, {long, long + "b", "c", "d"}, {long, long, long, long}} {
			r := newRig(t, 256)
			entries := map[string]string{}
			for i, key := range keys {
				entries[key] = values[i]
			}
			want, _ := r.trie(entries)
			orders(len(keys), nil, func(order []int) {
				root, now := r.empty(), map[string]string{}
				for _, i := range order {
					root, _ = r.do("12.8", root, put(keys[i], values[i]))
					now[keys[i]] = values[i]
					if w, _ := r.trie(now); root != w {
						t.Fatalf("12.8: puts in the order %v: another root", order)
					}
				}
				if root != want {
					t.Fatalf("12.8: puts in the order %v: another root", order)
				}
				for _, i := range order {
					root, _ = r.do("12.8", root, gone(keys[i]))
					delete(now, keys[i])
					if w, _ := r.trie(now); root != w {
						t.Fatalf("12.8: deletes in the order %v: another root", order)
					}
				}
				if root != r.empty() {
					t.Fatalf("12.3: deletes in the order %v: something is left", order)
				}
			})
		}
	}
}

// orders hands out all orders of the numbers below n.
func orders(n int, begun []int, each func([]int)) {
	if len(begun) == n {
		each(begun)
		return
	}
	for i := range n {
		if !slices.Contains(begun, i) {
			orders(n, append(slices.Clone(begun), i), each)
		}
	}
}

// There and back: 12.11.
func TestThereAndBack(t *testing.T) {
	rnd := rand.New(rand.NewSource(124))
	for range rounds(60) {
		r := newRig(t, 256)
		entries := someMap(rnd)
		root := r.plant(entries)
		for range 20 {
			key := near(rnd, entries)
			there, e := r.do("12.11", root, put(key, someValue(rnd)))
			if e != api.OK {
				t.Fatalf("12.11: %d", e)
			}
			staged := r.stage.Len()
			var back api.Hash
			if value, was := entries[key]; was {
				back, e = r.do("12.11", there, put(key, value))
			} else {
				back, e = r.do("12.11", there, gone(key))
			}
			if back != root || e != api.OK || r.stage.Len() < staged {
				t.Fatalf("12.11: a put of %x and back: %x, %d, not %x", key, back, e, root)
			}
		}
	}
}

// Each key of a full trie of two nibbles goes and comes again.
func TestFullTrie(t *testing.T) {
	for _, value := range []string{"v", long} {
		r := newRig(t, 256)
		entries := map[string]string{"": value}
		for i := range 256 {
			entries[string([]byte{byte(i)})] = value
		}
		root := r.plant(entries)
		for i := 0; i < 256; i += 5 {
			key := string([]byte{byte(i)})
			without, e := r.do("12.3", root, gone(key))
			if want, _ := r.trie(changed(entries, gone(key))); e != api.OK || without != want {
				t.Fatalf("12.3: %x gone: %x, %d", key, without, e)
			}
			if back, e := r.do("12.11", without, put(key, value)); e != api.OK || back != root {
				t.Fatalf("12.11: %x: %x, %d", key, back, e)
			}
		}
		for i := range 256 {
			key := string([]byte{byte(i * 7)})
			entries = changed(entries, gone(key))
			next, e := r.do("12.3", root, gone(key))
			if e != api.OK {
				t.Fatalf("12.3: %d", e)
			}
			root = next
		}
		if want := hashOf(256, leaf("", value)); root != want {
			t.Errorf("12.3: the empty key alone is left: %x", root)
		}
	}
}

// someNode tells a node that may be, but need not stand in the trie of any map; what it leads to stands on the shelf, or not.
func someNode(rnd *rand.Rand, r *rig, pool []string) string {
	refOf := func() string {
		b := pool[rnd.Intn(len(pool))]
		if len(b) < 32 && rnd.Intn(8) > 0 {
			return b
		}
		return r.byHash(b)
	}
	path := ""
	for range rnd.Intn(4) {
		path += fmt.Sprint(rnd.Intn(2))
	}
	if rnd.Intn(12) == 0 {
		path += strings.Repeat("0", rnd.Intn(64-len(path)))
	}
	switch rnd.Intn(5) {
	case 0:
		return leaf(path, someValue(rnd))
	case 1:
		next := pool[rnd.Intn(len(pool))]
		if len(next) < 32 && len(next) > 17 { // a branch has seventeen items
			return ext(path+"0", next)
		}
		return ext(path+"1", r.byHash(next))
	}
	value := ""
	if rnd.Intn(3) == 0 {
		value = someValue(rnd)
	}
	kids := []kid{{0, refOf()}, {1, refOf()}}
	if rnd.Intn(4) == 0 {
		kids = append(kids, kid{rnd.Intn(16), sibling})
	}
	return branch(value, kids...)
}

// Over any source at all, with books of few bits too, each change does what the chapter says.
func TestAnySource(t *testing.T) {
	rnd := rand.New(rand.NewSource(125))
	seen := map[api.Errno]int{}
	for round := range rounds(300) {
		r := newRig(t, []int{8, 9, 12, 256}[round%4])
		pool := []string{leaf("", "v"), leaf("0", "w"), leaf("01", "x"), leaf("1", long), branch("", kid{0, sibling}, kid{1, sibling})}
		for range 50 {
			pool = append(pool, someNode(rnd, r, pool[max(0, len(pool)-12):]))
		}
		for _, b := range pool {
			if rnd.Intn(40) > 0 {
				r.lay(b)
			}
		}
		root := r.empty()
		for i := range 50 {
			if i%5 == 0 {
				root = hashOf(r.bits, pool[rnd.Intn(len(pool))])
			}
			var changes []api.Change
			for range 1 + rnd.Intn(8)/7 {
				b := make([]byte, rnd.Intn(6))
				for i := range b {
					b[i] = []byte{0x00, 0x01, 0x10, 0x11}[rnd.Intn(4)]
				}
				if rnd.Intn(9) == 0 {
					b = append(b, make([]byte, 32-len(b))...)
				}
				if rnd.Intn(2) == 0 {
					changes = append(changes, gone(string(b)))
				} else {
					changes = append(changes, put(string(b), someValue(rnd)))
				}
			}
			next, e := r.do("12.3 to 12.6", root, changes...)
			seen[e]++
			if e == api.OK {
				root = next
			}
			r.reach("12.7", root)
		}
	}
	for _, e := range []api.Errno{api.OK, api.ErrNode, api.ErrAbsent, api.ErrClash} {
		if !testing.Short() && seen[e] < 60 {
			t.Errorf("%d calls answered %d: too few to tell", seen[e], e)
		}
	}
}
