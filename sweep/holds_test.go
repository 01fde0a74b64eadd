package sweep_test

import (
	"math/rand"
	"slices"
	"testing"

	"cairn/api"
	"cairn/digest"
	"cairn/find"
	"cairn/grow"
	"cairn/hstore"
	"cairn/media"
	"cairn/shape"
	"cairn/sweep"
)

// For the root of a map's trie Mark tells just the keys of shape.Nodes, and for several roots these put together.
func TestMarkAndShape(t *testing.T) {
	rnd := rand.New(rand.NewSource(215))
	most := 0
	for range rounds(400) {
		s := newStand(t, []int{256, 256, 160, 64}[rnd.Intn(4)])
		var tries []trie
		var roots []api.Hash
		entries := someMap(rnd, 40)
		for range 1 + rnd.Intn(4) {
			m := trieOf(t, s.bits, entries)
			for _, b := range m.blobs {
				s.src.blobs[b.Key] = string(b.Data)
			}
			tries, roots = append(tries, m), append(roots, m.root)
			if entries = changed(rnd, entries); rnd.Intn(4) == 0 {
				entries = someMap(rnd, 40)
			}
		}
		var together [][]api.Hash
		for _, m := range tries {
			got, _, e := s.mark("21.5", m.root)
			if e != api.OK || !slices.Equal(got, m.keys) {
				t.Fatalf("21.5: %d hashes, %d, not %d", len(got), e, len(m.keys))
			}
			together = append(together, got)
			most = max(most, len(got))
		}
		for range 3 {
			if got, read, e := s.mark("21.5: several", roots...); e != api.OK || !slices.Equal(got, union(together...)) || len(read) != len(got) {
				t.Fatalf("21.5: %d tries: %d hashes with %d read, %d, not %d", len(tries), len(got), len(read), e, len(union(together...)))
			}
			rnd.Shuffle(len(roots), func(i, k int) { roots[i], roots[k] = roots[k], roots[i] })
			roots = append(roots, roots[0], emptyRoot(s.bits))
		}
	}
	if most < 20 {
		t.Errorf("the greatest trie has %d nodes by their hashes", most)
	}
}

// A great map.
func TestMarkOfAGreatMap(t *testing.T) {
	rnd := rand.New(rand.NewSource(216))
	entries := map[string]string{}
	for range 3000 {
		entries[someString(rnd, 1+rnd.Intn(4))] = someValue(rnd)
	}
	book := newBook(t, 256)
	m := trieOf(t, 256, entries)
	src := newShelf()
	for _, b := range m.blobs {
		src.blobs[b.Key] = string(b.Data)
	}
	got, e := sweep.Mark(src, book, m.root)
	if e != api.OK || !slices.Equal(got, m.keys) || len(src.asked) != len(m.keys) || len(got) < 2000 {
		t.Errorf("21.5: %d hashes, %d, with %d read, not %d", len(got), e, len(src.asked), len(m.keys))
	}
}

// Over an honest device just what is marked or kept is left, whatever was there, and a second sweep deletes none.
func TestJustEnough(t *testing.T) {
	rnd := rand.New(rand.NewSource(214))
	for range rounds(300) {
		r := lay(t, 400, []int{256, 100, 50}[rnd.Intn(3)], []int{0, 1, 5, 256}[rnd.Intn(4)])
		entries := someMap(rnd, 20)
		var tries []trie
		for range 1 + rnd.Intn(4) {
			tries = append(tries, r.plant(entries))
			entries = changed(rnd, entries)
		}
		for range rnd.Intn(5) {
			r.put(key(byte(rnd.Intn(256))), someString(rnd, rnd.Intn(40)))
		}
		var keep, roots []api.Hash
		live := [][]api.Hash{nil}
		for _, m := range tries {
			if rnd.Intn(2) == 0 {
				roots = append(roots, m.root)
				live = append(live, m.keys)
			}
		}
		all := r.blobs()
		for _, h := range all {
			if rnd.Intn(6) == 0 {
				keep = append(keep, h)
			}
			if rnd.Intn(3) == 0 {
				r.read(h)
			}
		}
		marked := union(live...)
		left := union(marked, keep)
		for _, deleted := range []int{len(all) - len(left), 0} {
			got := r.sweep(keep, roots...)
			if got.e != api.OK || got.swept != (api.Swept{Live: len(marked), Deleted: deleted}) {
				t.Fatalf("21.4: %+v, not %d, %d", got, len(marked), deleted)
			}
			r.has("21.4", left...)
		}
		for _, root := range roots {
			if _, e := r.mark(root); e != api.OK {
				t.Fatalf("21.3: %d", e)
			}
		}
		r.sweep(nil)
		r.has("21.4: nothing is led to any more")
	}
}

// Scripts of any calls over any choices, over books of many and of few bits, against the model.
func TestScripts(t *testing.T) {
	rnd := rand.New(rand.NewSource(210))
	seen, deleted := map[api.Errno]int{}, 0
	for round := range rounds(700) {
		bits := []int{256, 256, 40, 16, 12, 9, 8}[round%7]
		r := lay(t, []int{400, 400, 30, 8}[rnd.Intn(4)], bits, []int{0, 1, 4, 256}[rnd.Intn(4)])
		var roots []api.Hash
		entries := someMap(rnd, 8)
		known := []api.Hash{emptyRoot(bits), {}, key(3)}
		for range 25 {
			switch rnd.Intn(9) {
			case 0, 1:
				m := r.plant(entries)
				roots, known = append(roots, m.root), append(append(known, m.keys...), m.root)
				entries = changed(rnd, entries)
			case 2:
				r.put(known[rnd.Intn(len(known))], someString(rnd, rnd.Intn(50)))
			case 3:
				r.lose(known[rnd.Intn(len(known))])
			case 4:
				r.read(known[rnd.Intn(len(known))])
			case 5:
				r.mark(some(rnd, roots, known)...)
			case 6:
				if rnd.Intn(3) == 0 {
					r.forget(some(rnd, nil, known)...)
				}
				r.up()
			default:
				r.choose(someChoices(rnd)...)
				got := r.sweep(some(rnd, nil, known), some(rnd, roots, known)...)
				seen[got.e]++
				deleted += got.swept.Deleted
				if rnd.Intn(2) == 0 {
					r.choose()
					r.up()
				}
			}
		}
		r.look()
	}
	for _, e := range []api.Errno{api.OK, api.ErrDown, api.ErrNode} {
		if seen[e] < rounds(400) {
			t.Errorf("error %d was seen %d times", e, seen[e])
		}
	}
	if deleted < rounds(2000) {
		t.Errorf("%d blobs were deleted", deleted)
	}
}

// some tells hashes by chance: mostly roots, if there are some, else any that are known.
func some(rnd *rand.Rand, roots, known []api.Hash) []api.Hash {
	var out []api.Hash
	for range rnd.Intn(4) {
		if len(roots) > 0 && rnd.Intn(10) > 0 {
			out = append(out, roots[rnd.Intn(len(roots))])
		} else {
			out = append(out, known[rnd.Intn(len(known))])
		}
	}
	return out
}

// someChoices tells choices of which most are honest.
func someChoices(rnd *rand.Rand) []api.Choice {
	var out []api.Choice
	often := 2 + rnd.Intn(20)
	for range rnd.Intn(40) {
		kind := api.Honest
		if rnd.Intn(often) == 0 {
			kind = rnd.Intn(api.Choices)
		}
		out = append(out, api.Choice{Kind: kind, N: rnd.Intn(300), M: rnd.Intn(300)})
	}
	return out
}

// commitment is a map on a device, which is changed as a store of layer 23 changes it: the new nodes are written, and where
// there is no room for one, all is swept that neither the old root nor the new one needs.
type commitment struct {
	t       *testing.T
	d       *media.Device
	s       *hstore.Store
	book    *digest.Book
	root    api.Hash
	entries []api.Entry
	sweeps  int
}

// write writes nodes, and tells whether there was room for them.
func (c *commitment) write(blobs []api.Blob) bool {
	swept := false
	var keep []api.Hash
	for _, b := range blobs {
		keep = append(keep, b.Key)
	}
	for i := 0; i < len(blobs); i++ {
		_, e := c.s.Put(blobs[i].Data)
		if e == api.ErrFull && !swept {
			if _, e := sweep.Sweep(c.d, c.s, c.book, keep, c.root); e != api.OK {
				c.t.Fatalf("W2: Sweep answers %d", e)
			}
			swept = true
			c.sweeps++
			i--
			continue
		}
		if e == api.ErrFull {
			return false
		}
		if e != api.OK {
			c.t.Fatalf("W2: Put answers %d", e)
		}
	}
	return true
}

// change does changes, and tells whether there was room for them.
func (c *commitment) change(changes []api.Change) bool {
	stage, _ := grow.New(c.s, c.book)
	root, e := stage.Apply(c.root, changes)
	if e != api.OK {
		c.t.Fatalf("W2: Apply answers %d", e)
	}
	blobs, _ := stage.Reach(root)
	if !c.write(blobs) {
		return false
	}
	c.root = root
	if c.entries, e = shape.Apply(c.entries, changes); e != api.OK {
		c.t.Fatalf("14.3: %d", e)
	}
	return true
}

// keys tells the keys of the nodes of entries.
func (c *commitment) keys(entries []api.Entry) []api.Hash {
	blobs, e := shape.Nodes(c.book, entries)
	if e != api.OK {
		c.t.Fatalf("14.6: %d", e)
	}
	var out []api.Hash
	for _, b := range blobs {
		out = append(out, b.Key)
	}
	return out
}

// Over an honest device there is room for a change just if the tries ahead of it and behind it have room together; the map is what it should be, ever anew.
func TestRoomForChanges(t *testing.T) {
	rnd := rand.New(rand.NewSource(23))
	full, sweeps := 0, 0
	for range rounds(60) {
		slots := 1 + rnd.Intn(40)
		d, _ := media.New(slots, 0)
		book := newBook(t, 256)
		s, _ := hstore.New(d, book, []int{0, 3, 256}[rnd.Intn(3)])
		c := &commitment{t: t, d: d, s: s, book: book, root: emptyRoot(256)}
		for range 60 {
			var changes []api.Change
			for range 1 + rnd.Intn(5) {
				x := api.Change{Key: []byte{byte(rnd.Intn(40))}, Value: []byte(someValue(rnd))}
				if rnd.Intn(2) == 0 {
					x = api.Change{Key: x.Key, Gone: true}
				}
				changes = append(changes, x)
			}
			then, _ := shape.Apply(c.entries, changes)
			fits := len(union(c.keys(c.entries), c.keys(then))) <= slots
			if c.change(changes) != fits {
				t.Fatalf("W2: %d slots for %d and %d nodes: room: %v", slots, len(c.keys(c.entries)), len(c.keys(then)), !fits)
			}
			if !fits {
				full++
			}
			for _, x := range c.entries {
				if v, found, e := find.Get(s, book, c.root, x.Key); e != api.OK || !found || string(v) != string(x.Value) {
					t.Fatalf("W5: Get(%x) answers %v, %d", x.Key, found, e)
				}
			}
			if want, _ := shape.Root(book, c.entries); want != c.root {
				t.Fatalf("W2: another root")
			}
		}
		sweeps += c.sweeps
	}
	if full < rounds(300) || sweeps < rounds(300) {
		t.Errorf("%d changes found no room, %d sweeps were made", full, sweeps)
	}
}
