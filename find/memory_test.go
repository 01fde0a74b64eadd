package find_test

import (
	"bytes"
	"fmt"
	"math/rand"
	"slices"
	"sync"
	"testing"

	"cairn/api"
	"cairn/find"
)

// keeper is a source that tells the memory in which it keeps its nodes.
type keeper map[api.Hash][]byte

func (k keeper) Node(h api.Hash) ([]byte, api.Errno) {
	if b, there := k[h]; there {
		return b, api.OK
	}
	return nil, api.ErrNode
}

// kept makes such a source of a shelf's nodes, and tells beside it what each memory holds, spare room too.
func kept(src *shelf) (keeper, map[api.Hash]string) {
	k, was := keeper{}, map[api.Hash]string{}
	for h, b := range src.blobs {
		k[h] = roomy(b)
		was[h] = string(k[h][:cap(k[h])])
	}
	return k, was
}

func (k keeper) is(was map[api.Hash]string) bool {
	for h, b := range k {
		if string(b[:cap(b)]) != was[h] {
			return false
		}
	}
	return len(k) == len(was)
}

// shared writes a mark of its own into each list, spare room too, and tells whether one of them has lost its mark.
func shared(all [][]byte) bool {
	for i, b := range all {
		fill(b, byte(i))
	}
	for i, b := range all {
		if slices.ContainsFunc(b[:cap(b)], func(x byte) bool { return x != byte(i) }) {
			return true
		}
	}
	return false
}

// grove is a trie with whole nodes and nodes by their hashes, with its keys.
func grove(r *rig) (api.Hash, map[string]string) {
	entries := map[string]string{"": "e", "\x12": "a", "\x12\x34": long, "\x12\x35": "b", "\x12\x35\x67": long + "!", "\x77": "seven", "\x78": "eight", "\x79\x99": "n", unhex(deep[:64]): long, unhex(deep[:62]): "up"}
	return r.plant(entries), entries
}

// handed is all that both calls hand out for some keys.
type handed struct {
	values [][]byte
	trails [][][]byte
}

func handOut(src api.Source, r *rig, root api.Hash, keys []string) handed {
	var out handed
	for _, key := range keys {
		v, _, _ := find.Get(src, r.book, root, []byte(key))
		l, _ := find.Trail(src, r.book, root, []byte(key))
		out.values = append(out.values, v)
		out.trails = append(out.trails, l)
	}
	return out
}

func (h handed) all() [][]byte {
	out := slices.Clone(h.values)
	for _, l := range h.trails {
		out = append(out, l...)
	}
	return out
}

func (h handed) String() string { return fmt.Sprintf("%x %x", h.values, h.trails) }

func TestWhatIsHandedOutIsNew(t *testing.T) {
	r := newRig(t, 256)
	root, entries := grove(r)
	k, was := kept(r.src)
	rnd := rand.New(rand.NewSource(3))
	keys := around(rnd, entries)
	first, second := handOut(k, r, root, keys), handOut(k, r, root, keys)
	if first.String() != second.String() {
		t.Errorf("R5: a call that is done again answers otherwise")
	}
	if !k.is(was) {
		t.Errorf("R3: what the source told is changed")
	}
	said := second.String()
	for _, l := range first.trails {
		clear(l[:cap(l)])
	}
	if second.String() != said {
		t.Errorf("R3: two trails are one list")
	}
	first = handOut(k, r, root, keys)
	if shared(append(first.all(), second.all()...)) {
		t.Errorf("R3: two answers share memory")
	}
	if !k.is(was) {
		t.Errorf("R3: an answer shares memory with what the source told")
	}
	if third := handOut(k, r, root, keys); third.String() != said {
		t.Errorf("R3: whoever writes into an answer changes the next one")
	}
	if !r.book.Sound() {
		t.Errorf("R3: the book is not sound")
	}
}

// What was handed out stays as it was, whatever the source does with its memory then.
func TestWhatWasHandedOutStays(t *testing.T) {
	r := newRig(t, 256)
	root, entries := grove(r)
	k, _ := kept(r.src)
	out := handOut(k, r, root, around(rand.New(rand.NewSource(3)), entries))
	said := out.String()
	for _, b := range k {
		fill(b, 0xdd)
	}
	if out.String() != said {
		t.Errorf("R3: an answer shares memory with what the source told")
	}
	if _, _, e := find.Get(k, r.book, root, nil); e != api.ErrNode {
		t.Errorf("P11.1: a node that was read is kept: %d", e)
	}
	r.ask("P11.1", root, "") // the shelf's own bytes are still there
}

// meddler is a source that writes into the key that was handed in, while the call is on its way.
type meddler struct {
	*shelf
	key []byte
}

func (m meddler) Node(h api.Hash) ([]byte, api.Errno) {
	fill(m.key, 0x66)
	return m.shelf.Node(h)
}

func TestKeysAreNotKept(t *testing.T) {
	r := newRig(t, 256)
	root, entries := grove(r)
	for key, value := range entries {
		handed := roomy(key)
		if v, found, e := find.Get(meddler{r.src, handed}, r.book, root, handed); string(v) != value || !found || e != api.OK {
			t.Errorf("R3: %x: %q, %v, %d", key, v, found, e)
		}
		handed = roomy(key)
		l, e := find.Trail(r.src, r.book, root, handed)
		said := fmt.Sprintf("%x", l)
		fill(handed, 0x66)
		if fmt.Sprintf("%x", l) != said || e != api.OK {
			t.Errorf("R3: a trail shares memory with its key")
		}
	}
}

func TestNilAndEmptyAreOne(t *testing.T) {
	r := newRig(t, 256)
	root, _ := grove(r)
	bare := r.plant(map[string]string{"\x12": long, "\x22": long})
	for _, key := range [][]byte{nil, {}, make([]byte, 0, 9)} {
		if v, found, e := find.Get(r.src, r.book, root, key); string(v) != "e" || !found || e != api.OK {
			t.Errorf("R4: %q, %v, %d", v, found, e)
		}
		if v, found, e := find.Get(r.src, r.book, bare, key); len(v) != 0 || found || e != api.OK {
			t.Errorf("R4: %q, %v, %d", v, found, e)
		}
		if l, e := find.Trail(r.src, r.book, bare, key); len(l) != 1 || e != api.OK {
			t.Errorf("R4: %q, %d", l, e)
		}
	}
	none := api.Hash(hashOf(256, ""))
	for _, told := range [][]byte{nil, {}, make([]byte, 0, 9)} {
		if e, f := both(t, keeper{none: told}, r.book, none, nil); e != api.ErrNode || f != api.ErrNode {
			t.Errorf("R4: a source that tells no byte: %d, %d", e, f)
		}
	}
}

// Many may ask over one source and one book at the same time.
func TestSideBySide(t *testing.T) {
	r := newRig(t, 256)
	root, entries := grove(r)
	k, was := kept(r.src)
	keys := around(rand.New(rand.NewSource(4)), entries)
	said := make([]string, 8)
	var all sync.WaitGroup
	for i := range said {
		all.Go(func() {
			for range 20 {
				said[i] = handOut(k, r, root, keys).String()
			}
		})
	}
	all.Wait()
	for i := range said {
		if said[i] != said[0] {
			t.Fatalf("R5: two who ask the same at the same time are told otherwise")
		}
	}
	if !k.is(was) {
		t.Errorf("R3: what the source told is changed")
	}
}

// What is answered does not hang on the book's past, or on its other bits.
func TestBooksWithAPast(t *testing.T) {
	r := newRig(t, 256)
	root, entries := grove(r)
	k, _ := kept(r.src)
	keys := around(rand.New(rand.NewSource(5)), entries)
	said := handOut(k, r, root, keys).String()
	for _, s := range []string{"", "\x80", "anything", long} {
		r.book.Hash([]byte(s))
		r.book.Code([]byte(s))
		r.book.Accept([]byte(s+"?"), api.Hash{})
	}
	if handOut(k, r, root, keys).String() != said {
		t.Errorf("R5: an answer hangs on what the book has hashed")
	}
	hashed, coded := r.book.Len()
	handOut(k, r, root, keys)
	if h, c := r.book.Len(); h != hashed || c != coded {
		t.Errorf("R7: the same calls hash or code other strings: %d, %d behind %d, %d", h, c, hashed, coded)
	}
}

// An answer that is no list is zero beside an error, whatever was found ahead of it.
func TestZeroBesideAnError(t *testing.T) {
	r := newRig(t, 256)
	root, key, encodings := chain(r)
	for at := range encodings {
		was := r.src.blobs[hashOf(256, encodings[at])]
		r.src.blobs[hashOf(256, encodings[at])] = "wrong"
		if e, f := both(t, r.src, r.book, root, []byte(key)); e != api.ErrNode || f != api.ErrNode {
			t.Errorf("R2: %d, %d", e, f)
		}
		r.src.blobs[hashOf(256, encodings[at])] = was
	}
	v, found, e := find.Get(r.src, r.book, root, []byte(key))
	if !bytes.Equal(v, []byte(long)) || !found || e != api.OK {
		t.Errorf("P11.2: %q, %v, %d", v, found, e)
	}
}
