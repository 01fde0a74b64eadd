package diff_test

import (
	"fmt"
	"maps"
	"math/rand"
	"slices"
	"strings"
	"testing"

	"cairn/api"
	"cairn/diff"
	"cairn/grow"
	"cairn/hstore"
	"cairn/media"
	"cairn/shape"
)

// someKey tells a key: some are dense, some long, some begin as others do.
func someKey(rnd *rand.Rand, kind int) string {
	switch kind {
	case 0: // few digits, short: beginnings of one another
		b := make([]byte, rnd.Intn(5))
		for i := range b {
			b[i] = []byte{0x00, 0x01, 0x10, 0x11, 0xf1, 0xff}[rnd.Intn(6)]
		}
		return string(b)
	case 1: // anything
		b := make([]byte, rnd.Intn(33))
		rnd.Read(b)
		return string(b)
	case 2: // the longest ones, with long beginnings in common
		b := []byte(keyOf(deep[:64]))
		for range rnd.Intn(3) {
			b[rnd.Intn(32)] ^= byte(1 << rnd.Intn(8))
		}
		return string(b)
	}
	return strings.Repeat("\x77", rnd.Intn(33)) // one behind the other
}

func someValue(rnd *rand.Rand) string {
	size := []int{1, 1, 2, 20, 31, 32, 33, 55, 56, 255, 256, 1 + rnd.Intn(256)}[rnd.Intn(12)]
	return strings.Repeat(string([]byte{byte(1 + rnd.Intn(3))}), size)
}

func someMap(rnd *rand.Rand) map[string]string {
	entries := map[string]string{}
	kind := rnd.Intn(5)
	for range rnd.Intn(30) {
		k := kind
		if kind == 4 {
			k = rnd.Intn(4)
		}
		entries[someKey(rnd, k)] = someValue(rnd)
	}
	return entries
}

// another tells a map that has come from one by some changes, or any.
func another(rnd *rand.Rand, m map[string]string) map[string]string {
	if rnd.Intn(8) == 0 {
		return someMap(rnd)
	}
	out := joined(m)
	for range rnd.Intn(8) {
		key := near(rnd, out)
		if rnd.Intn(3) == 0 {
			delete(out, key)
		} else {
			out[key] = someValue(rnd)
		}
	}
	return out
}

// near tells a key that is a map's, or is like one, or any.
func near(rnd *rand.Rand, entries map[string]string) string {
	key := ""
	if len(entries) > 0 {
		key = slices.Sorted(maps.Keys(entries))[rnd.Intn(len(entries))]
	}
	switch rnd.Intn(6) {
	case 0:
		return key[:rnd.Intn(len(key)+1)]
	case 1:
		b := []byte(key)
		if len(b) > 0 {
			b[rnd.Intn(len(b))] ^= byte(1 << rnd.Intn(8))
		}
		return string(b)
	case 2:
		long := key + someKey(rnd, 0)
		return long[:min(32, len(long))]
	case 3:
		return someKey(rnd, rnd.Intn(4))
	}
	return key
}

// entriesOf tells a map's entries, by their keys rising.
func entriesOf(m map[string]string) []api.Entry {
	var out []api.Entry
	for _, k := range slices.Sorted(maps.Keys(m)) {
		out = append(out, api.Entry{Key: []byte(k), Value: []byte(m[k])})
	}
	return out
}

func sameEntries(a, b []api.Entry) bool {
	return slices.EqualFunc(a, b, func(x, y api.Entry) bool {
		return string(x.Key) == string(y.Key) && string(x.Value) == string(y.Value)
	})
}

// leads looks that changes lead from one map to another: the entries by shape, the root by grow.
func (r *rig) leads(what string, cs []api.Change, from, to map[string]string) {
	r.t.Helper()
	if got, e := shape.Apply(entriesOf(from), cs); !sameEntries(got, entriesOf(to)) || e != api.OK {
		r.t.Fatalf("24.4: %s: shape comes to %d entries, %d", what, len(got), e)
	}
	s, e := grow.New(r.src, r.book)
	if e != api.OK {
		r.t.Fatal(e)
	}
	if got, e := s.Apply(r.plant(from), cs); got != r.plant(to) || e != api.OK {
		r.t.Fatalf("24.4: %s: grow comes to %.3x, %d", what, got, e)
	}
}

// Of any two maps: what they differ in is told, just what they don't share is read, and Changes leads from the one to the other, and
// that of Back the other way.
func TestAnyMaps(t *testing.T) {
	for part := range 6 {
		t.Run(fmt.Sprint(part), func(t *testing.T) {
			t.Parallel()
			rnd := rand.New(rand.NewSource(int64(2400 + part)))
			told := 0
			for round := range rounds(250) {
				r := newRig(t, []int{256, 255, 128, 64}[round%4])
				old := someMap(rnd)
				now := another(rnd, old)
				told += len(r.maps("24.4", old, now))
				ds, _ := diff.Diff(r.src, r.book, r.plant(old), r.plant(now))
				r.leads("Changes", diff.Changes(ds), old, now)
				r.leads("Changes of Back", diff.Changes(diff.Back(ds)), now, old)
				if root, e := shape.Root(r.book, entriesOf(now)); root != r.plant(now) || e != api.OK {
					t.Fatalf("the trie of these tests is not that of chapter 14")
				}
				if !r.book.Sound() {
					t.Fatalf("the book of %d bits is not sound", r.bits)
				}
			}
			if told < rounds(250) {
				t.Errorf("%d differences: too few to tell", told)
			}
		})
	}
}

// Each node in turn lost: what both sides share may be, all else is its error, at its turn.
func TestAnyNodeLost(t *testing.T) {
	t.Parallel()
	rnd := rand.New(rand.NewSource(242))
	shared, own := 0, 0
	for range rounds(60) {
		r := newRig(t, 256)
		old := someMap(rnd)
		now := another(rnd, old)
		a, b := r.plant(old), r.plant(now)
		want, _ := r.diff("24.1", a, b)
		read := slices.Clone(r.src.asked)
		for h, encoding := range maps.Clone(r.src.blobs) {
			delete(r.src.blobs, h)
			if at := slices.Index(read, h); at >= 0 {
				own++
				r.refused("24.1: one side's is lost", a, b, api.ErrAbsent, at+1)
			} else {
				shared++
				r.tells("24.6: what both share is lost", a, b, len(read), want...)
			}
			r.src.blobs[h] = encoding
		}
	}
	if shared < rounds(60) || own < rounds(60) {
		t.Errorf("%d shared ones, %d others: too few to tell", shared, own)
	}
}

// The roots of a stage that has grown by puts and deletes, over the stage.
func TestOverAStage(t *testing.T) {
	t.Parallel()
	rnd := rand.New(rand.NewSource(243))
	for range rounds(40) {
		r := newRig(t, 256)
		m := someMap(rnd)
		roots, states := []api.Hash{r.plant(m)}, []map[string]string{joined(m)}
		s, _ := grow.New(r.src, r.book)
		for range 12 {
			key := near(rnd, m)
			c := api.Change{Key: []byte(key), Gone: rnd.Intn(2) == 0}
			if c.Gone {
				delete(m, key)
			} else {
				m[key] = someValue(rnd)
				c.Value = []byte(m[key])
			}
			root, e := s.Apply(roots[len(roots)-1], []api.Change{c})
			if e != api.OK {
				t.Fatal(e)
			}
			roots, states = append(roots, root), append(states, joined(m))
		}
		for i := range roots {
			for j := range roots {
				ds, e := diff.Diff(s, r.book, roots[i], roots[j])
				if want := differences(states[i], states[j]); !slices.Equal(deltas(ds), want) || e != api.OK {
					t.Fatalf("24.4: from state %d to %d: %.300v, %d, not %.300v", i, j, deltas(ds), e, want)
				}
			}
		}
	}
}

// Over a device that may lie: what the maps differ in, or an error.
func TestOverADevice(t *testing.T) {
	t.Parallel()
	rnd := rand.New(rand.NewSource(244))
	wrong, right := 0, 0
	for range rounds(60) {
		r := newRig(t, 256)
		d, e := media.New(4096, 100)
		store, f := hstore.New(d, r.book, rnd.Intn(3))
		if e != api.OK || f != api.OK {
			t.Fatal(e, f)
		}
		old := someMap(rnd)
		now := another(rnd, old)
		a, b := r.plant(old), r.plant(now)
		for _, x := range r.src.blobs {
			if _, e := store.Put([]byte(x)); e != api.OK {
				t.Fatal(e)
			}
		}
		store.Forget()
		for range 12 {
			var choices []api.Choice
			for range rnd.Intn(6) {
				choices = append(choices, []api.Choice{{}, {}, {Kind: api.Drop}, {Kind: api.Alter, N: rnd.Intn(99), M: rnd.Intn(256)}}[rnd.Intn(4)])
			}
			d.Choose(choices...)
			ds, e := diff.Diff(store, r.book, a, b)
			d.Choose() // the list is not there any more
			switch {
			case e == api.ErrNode && len(ds) == 0:
				wrong++
			case e != api.OK || !slices.Equal(deltas(ds), differences(old, now)):
				t.Fatalf("W1: %.300v, %d", deltas(ds), e)
			default:
				right++
			}
		}
	}
	if few := rounds(60); wrong < few || right < few {
		t.Errorf("%d met a lie, %d did not", wrong, right)
	}
}

// someNode tells a node that may be, but need not stand in the trie of any map; what it leads to stands on the shelf, or not.
func someNode(rnd *rand.Rand, r *rig, pool []string) string {
	refOf := func() string {
		b := pool[rnd.Intn(len(pool))]
		if len(b) < 32 && rnd.Intn(12) > 0 {
			return b
		}
		return r.byHash(b)
	}
	path := ""
	for range rnd.Intn(4) {
		path += fmt.Sprint(rnd.Intn(2))
	}
	if rnd.Intn(12) == 0 {
		path += strings.Repeat("0", rnd.Intn(64-len(path)))
	}
	switch rnd.Intn(5) {
	case 0:
		return leaf(path, someValue(rnd))
	case 1:
		next := pool[rnd.Intn(len(pool))]
		if len(next) < 32 && len(next) > 17 { // a branch has seventeen items
			return ext(path+"0", next)
		}
		return ext(path+"1", r.byHash(next))
	}
	value := ""
	if rnd.Intn(3) == 0 {
		value = someValue(rnd)
	}
	kids := []kid{{0, refOf()}, {1, refOf()}}
	if rnd.Intn(4) == 0 {
		kids = append(kids, kid{rnd.Intn(16), sibling(rnd.Intn(2))})
	}
	return branch(value, kids...)
}

// Over any source at all, with books of few bits too, and with sources that tell now this, now that under one hash.
func TestAnySource(t *testing.T) {
	for part, bits := range []int{8, 8, 9, 10, 12, 256} {
		t.Run(fmt.Sprint(part), func(t *testing.T) {
			t.Parallel()
			rnd := rand.New(rand.NewSource(int64(2450 + part)))
			seen := map[api.Errno]int{}
			told := 0
			for range rounds(300) {
				r := newRig(t, bits)
				roots := scatter(rnd, r)
				for range 20 {
					ds, e := r.diff("24.2", roots[rnd.Intn(len(roots))], roots[rnd.Intn(len(roots))])
					seen[e]++
					told += len(ds)
				}
			}
			for _, e := range []api.Errno{api.OK, api.ErrNode, api.ErrAbsent} {
				if seen[e] < rounds(60) {
					t.Errorf("%d calls answered %d: too few to tell", seen[e], e)
				}
			}
			if told < rounds(100) {
				t.Errorf("%d differences: too few to tell", told)
			}
		})
	}
}

// scatter lays some nodes on the shelf, and tells roots that lead to some of them.
func scatter(rnd *rand.Rand, r *rig) []api.Hash {
	pool := []string{leaf("", "v"), leaf("0", "w"), leaf("01", "x"), leaf("1", long), branch("", kid{0, sibling(0)}, kid{1, sibling(0)})}
	for range 40 {
		pool = append(pool, someNode(rnd, r, pool[max(0, len(pool)-12):]))
	}
	fickle := rnd.Intn(2) == 0
	roots := []api.Hash{r.empty(), {}}
	for _, b := range pool {
		h := hashOf(r.bits, b)
		roots = append(roots, h)
		if was, there := r.src.blobs[h]; there && was != b && fickle {
			r.src.also[h] = append(r.src.also[h], was)
		}
		if rnd.Intn(40) > 0 {
			r.lay(b)
		}
		if rnd.Intn(100) == 0 {
			r.src.errs[h] = api.Errno(rnd.Intn(300))
		}
	}
	return roots
}

// Tries of maps in books of few bits: where two different nodes have one hash, a side may be taken for the other, or lead elsewhere.
func TestMapsInNarrowBooks(t *testing.T) {
	for part, bits := range []int{8, 9, 12, 16} {
		t.Run(fmt.Sprint(bits), func(t *testing.T) {
			t.Parallel()
			rnd := rand.New(rand.NewSource(int64(2460 + part)))
			right, wrong := 0, 0
			for range rounds(300) {
				r := newRig(t, bits)
				old := someMap(rnd)
				now := another(rnd, old)
				ds, e := r.both("24.2", r.plant(old), r.plant(now))
				if slices.Equal(ds, differences(old, now)) && e == api.OK {
					right++
				} else {
					wrong++
				}
			}
			if right < rounds(50) || bits < 10 && wrong < rounds(50) {
				t.Errorf("%d right, %d not: too few to tell", right, wrong)
			}
		})
	}
}
