package find_test

import (
	"fmt"
	"maps"
	"slices"
	"strings"
	"testing"

	"cairn/api"
	"cairn/digest"
	"cairn/find"
	"cairn/hstore"
	"cairn/media"
)

// chain is a trie in which six nodes are read on the way of one key, and others stand beside it.
func chain(r *rig) (root api.Hash, key string, encodings []string) {
	end := leaf("9", long)
	under := branch(long+" under", kid{8, r.byHash(end)}, kid{2, sibling})
	middle := ext("4567", r.byHash(under))
	fork := branch("", kid{3, r.byHash(middle)}, kid{4, r.byHash(leaf("44", long))}, kid{5, leaf("1f", "w")})
	over := branch("two", kid{1, leaf("1", "v")}, kid{2, r.byHash(fork)})
	top := ext("01", r.byHash(over))
	return r.lay(top), "\x01\x23\x45\x67\x89", []string{top, over, fork, middle, under, end}
}

func hashesOf(bits int, encodings []string) []api.Hash {
	var out []api.Hash
	for _, b := range encodings {
		out = append(out, hashOf(bits, b))
	}
	return out
}

func TestOrderInWhichTheSourceIsAsked(t *testing.T) {
	for _, bits := range []int{12, 100, 256} {
		r := newRig(t, bits)
		root, key, encodings := chain(r)
		for n, c := range []struct {
			key, value string
		}{{"", ""}, {"\x01", "two"}, {"\x01\x21", ""}, {"\x01\x23\x45", ""}, {"\x01\x23\x45\x67", long + " under"}, {key, long}} {
			read := n + 1
			if c.key == "\x01\x23\x45" {
				read = 4
			} else if c.key == "\x01\x21" {
				read = 3
			}
			a := r.ask("P11.1", root, c.key)
			if a.value != c.value || a.found != (c.value != "") || a.e != api.OK {
				t.Errorf("P11.2: %x: %v", c.key, a)
			}
			if !slices.Equal(a.asked, hashesOf(bits, encodings[:read])) {
				t.Errorf("P11.1: %x: asked for %.3x", c.key, a.asked)
			}
			if !slices.Equal(a.trail, encodings[:read]) {
				t.Errorf("P11.3: %x: the trail is %x", c.key, a.trail)
			}
		}
		if !r.book.Sound() {
			t.Errorf("the book is not sound: %d bits are too few for this test", bits)
		}
	}
}

// Whatever number the source answers is the answer, and nothing is asked behind it.
func TestErrorsOfTheSource(t *testing.T) {
	for at := range 6 {
		r := newRig(t, 256)
		root, key, encodings := chain(r)
		h := hashOf(256, encodings[at])
		numbers := []api.Errno{-1, 8, 9, 99999}
		for e := api.ErrHandle; e <= api.ErrQuery; e++ {
			numbers = append(numbers, e)
		}
		for _, e := range numbers {
			r.src.errs[h] = e
			r.refused(fmt.Sprintf("P11.1: error %d at node %d", e, at), root, key, e, at+1)
		}
		delete(r.src.blobs, h)
		r.refused(fmt.Sprintf("P11.1: an error beside no bytes at node %d", at), root, key, api.ErrQuery, at+1)
		delete(r.src.errs, h)
		r.refused(fmt.Sprintf("P11.1: node %d is absent", at), root, key, api.ErrNode, at+1)
		if at > 0 {
			r.nothing("P11.1: a key that does not lead there", root, "\xff", 1)
		}
	}
}

// wrongs are bytes that a source may tell instead of others.
func wrongs(encoding string, others []string) []string {
	out := []string{"", "\x00", "\x80", "\xc0", "\x01\x02\x03", encoding[1:], encoding[:len(encoding)-1], encoding + "\x00", encoding + encoding, strings.Repeat("\xff", 2000)}
	for i := range len(encoding) {
		for _, turn := range []byte{1, 128} {
			b := []byte(encoding)
			b[i] ^= turn
			out = append(out, string(b))
		}
	}
	for _, b := range others {
		if b != encoding {
			out = append(out, b)
		}
	}
	return out
}

func TestSourceThatTellsOtherBytes(t *testing.T) {
	for at := range 6 {
		r := newRig(t, 256)
		root, key, encodings := chain(r)
		h := hashOf(256, encodings[at])
		for _, told := range wrongs(encodings[at], append(encodings, leaf("9", long+"!"))) {
			r.src.blobs[h] = told
			r.refused(fmt.Sprintf("P11.1: node %d told as %.20x", at, told), root, key, api.ErrNode, at+1)
		}
		r.src.blobs[h] = encodings[at]
		r.found("P11.1: the source tells the right bytes again", root, key, long, 6)
	}
}

// Bytes that have the right hash and are no node.
func TestBytesThatAreNoNode(t *testing.T) {
	none := []string{"", "\x00", "\x80", "\xc0", "\xc1\x80", "\x01\x02\x03", "no node, in more than thirty-one bytes", leaf("9", long) + "\x00",
		list(item(packed("9", 2)), item("")), list(item(packed("9", 2)), item(strings.Repeat("v", 257))), list(item(packed(deep[:65], 2)), item(long)),
		ext("", item(strings.Repeat("h", 32))), branch("", kid{1, item(strings.Repeat("h", 32))}), branch("", kid{1, sibling}, kid{2, leaf("9", long)}),
		strings.Repeat("\xc1", 5000), strings.Repeat("\x00", 1<<20+1)}
	for _, b := range none {
		r := newRig(t, 256)
		for _, key := range []string{"", "\x19"} {
			if h := r.lay(b); b != "\x80" {
				r.refused("P11.1: a root that is no node", h, key, api.ErrNode, 1)
			}
		}
		r.refused("P11.1: a kid that is no node", r.lay(fork('1', r.byHash(b))), "\x19", api.ErrNode, 2)
		r.nothing("P11.1: a kid that is no node, and that is not met", r.lay(fork('1', r.byHash(b))), "\x39", 1)
		r.refused("P11.1: a Next that is no node", r.lay(ext("1", r.byHash(b))), "\x19", api.ErrNode, 2)
		r.nothing("P11.1: a Next that is no node, and that is not met", r.lay(ext("1", r.byHash(b))), "\x29", 1)
	}
}

// once is a source that tells each node a single time.
type once struct{ *shelf }

func (o once) Node(h api.Hash) ([]byte, api.Errno) {
	b, e := o.shelf.Node(h)
	delete(o.blobs, h)
	return b, e
}

func TestEachNodeIsAskedForOnce(t *testing.T) {
	r := newRig(t, 256)
	root, key, _ := chain(r)
	if v, found, e := find.Get(once{r.src}, r.book, root, []byte(key)); string(v) != long || !found || e != api.OK {
		t.Errorf("P11.1: Get: %q, %v, %d", v, found, e)
	}
	if _, _, e := find.Get(once{r.src}, r.book, root, []byte(key)); e != api.ErrNode {
		t.Errorf("P11.1: nothing is kept from call to call: %d", e)
	}
	root, key, encodings := chain(r)
	if l, e := find.Trail(once{r.src}, r.book, root, []byte(key)); len(l) != len(encodings) || e != api.OK {
		t.Errorf("P11.1: Trail: %q, %d", l, e)
	}
}

// A node that stands twice on one way is read twice: its bytes are the same.
func TestANodeTwiceOnOneWay(t *testing.T) {
	r := newRig(t, 256)
	end := branch(long, kid{7, sibling})
	twice := r.byHash(end)
	root := r.lay(branch("", kid{1, r.byHash(branch("", kid{2, twice}, kid{3, twice}))}, kid{2, twice}))
	r.found("P11.1", root, "\x12", long, 3)
	r.found("P11.1", root, "\x13", long, 3)
	r.refused("P11.1: the same node at half a byte", root, "\x27", api.ErrNode, 2)
}

// With few bits another node may have the hash that is asked for: it is taken as right, and the book shows the clash, if it has hashed both.
func TestClashes(t *testing.T) {
	for _, bits := range []int{8, 10, 12} {
		r := newRig(t, bits)
		right := leaf("2", "right: "+long)
		h := r.lay(right)
		root := r.lay(fork('1', item(string(h[:]))))
		r.found("P11.2", root, "\x12", "right: "+long, 2)
		other := leafWithHash(bits, "2", h)
		r.src.blobs[h] = other
		r.found("P11.1: other bytes with the right hash", root, "\x12", valueIn(other), 2)
		at := slices.IndexFunc(r.book.Clashes(), func(p api.Pair) bool {
			return string(p.A) == right && string(p.B) == other || string(p.A) == other && string(p.B) == right
		})
		if at < 0 || r.book.Sound() {
			t.Errorf("R7: the book of %d bits does not tell the clash", bits)
		}
		if _, coded := r.book.Len(); coded != 0 {
			t.Errorf("R7: %d strings were coded", coded)
		}
	}
}

// Each encoding that is taken as right, and the empty trie's byte, have been hashed by the book: a string with the same hash shows it.
func TestWhatTheBookHasHashed(t *testing.T) {
	const bits = 8
	for _, trail := range []bool{false, true} {
		r := newRig(t, bits)
		end := leaf("9", long)
		top := fork('8', r.byHash(end))
		root := r.lay(top)
		if trail {
			r.getTrail(root, "\x89")
		} else {
			r.get(root, "\x89")
		}
		for _, s := range []string{"\x80", end, top} {
			other := leafWithHash(bits, "7", hashOf(bits, s))
			r.book.Hash([]byte(other))
			at := slices.IndexFunc(r.book.Clashes(), func(p api.Pair) bool {
				return string(p.A) == s && string(p.B) == other || string(p.A) == other && string(p.B) == s
			})
			if at < 0 {
				t.Errorf("R7: %x was compared and is not in the book", s)
			}
		}
	}
}

// What is refused ahead of the first reading hashes and codes nothing that it need not, and asks nothing.
func TestRefusedAheadOfReading(t *testing.T) {
	r := newRig(t, 256)
	root, _, _ := chain(r)
	both(t, r.src, r.book, root, make([]byte, 33))
	both(t, nil, r.book, root, nil)
	if hashed, coded := r.book.Len(); hashed > 1 || coded != 0 || len(r.src.asked) != 0 {
		t.Errorf("R2: %d strings hashed, %d coded, %d nodes asked for", hashed, coded, len(r.src.asked))
	}
}

// stored lays all of a shelf on a device, and tells a store over it.
func stored(t *testing.T, src *shelf, book *digest.Book, cache int) (*hstore.Store, *media.Device) {
	t.Helper()
	d, e := media.New(64, 20)
	s, f := hstore.New(d, book, cache)
	if e != api.OK || f != api.OK {
		t.Fatalf("a device, a store: %d, %d", e, f)
	}
	for _, b := range slices.Sorted(maps.Values(src.blobs)) {
		if _, e := s.Put([]byte(b)); e != api.OK {
			t.Fatalf("Put: %d", e)
		}
	}
	s.Forget()
	return s, d
}

func TestOverADeviceThatLies(t *testing.T) {
	r := newRig(t, 256)
	root, key, encodings := chain(r)
	for at := range encodings {
		for kind := range api.Choices {
			if kind == api.Rollback { // what it takes from the device is gone for good
				continue
			}
			for n := range 3 {
				s, d := stored(t, r.src, r.book, 0)
				choices := make([]api.Choice, at+1)
				choices[at] = api.Choice{Kind: kind, N: n, M: 40 * n}
				d.Choose(choices...)
				was := len(d.Accesses())
				v, found, e := find.Get(s, r.book, root, []byte(key))
				made := len(d.Accesses()) - was
				switch {
				case e == api.OK && (string(v) != long || !found || made != len(encodings)):
					t.Errorf("P11.2: choice %d at access %d: %q, %v, %d accesses", kind, at, v, found, made)
				case e != api.OK && (len(v) != 0 || found || made > at+1):
					t.Errorf("P11.2: choice %d at access %d: %q, %v, error %d, %d accesses", kind, at, v, found, e, made)
				}
				down := kind == api.Crash || kind == api.After || kind == api.Torn
				if wrong := kind == api.Alter || kind == api.Drop; wrong && e != api.ErrNode || down && e != api.ErrDown && e != api.OK || kind == api.Crash && e != api.ErrDown || kind == api.Honest && e != api.OK {
					t.Errorf("P11.1: choice %d at access %d: error %d", kind, at, e)
				}
				d.Up()
				d.Choose()
				if l, e := find.Trail(s, r.book, root, []byte(key)); len(l) != len(encodings) || e != api.OK {
					t.Errorf("P11.3: behind choice %d at access %d: %d nodes, %d", kind, at, len(l), e)
				}
			}
		}
	}
}
