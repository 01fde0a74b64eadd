package grow_test

import (
	"fmt"
	"maps"
	"math/rand"
	"slices"
	"strings"
	"testing"

	"cairn/api"
	"cairn/grow"
	"cairn/hstore"
	"cairn/media"
)

// chain is a trie in which six nodes are read on the way of one key, a seventh is all that its delete leaves of a branch, and others stand beside the way.
func chain(r *rig) (root api.Hash, key string, encodings []string) {
	end, other := leaf("9", long), leaf("1", long+" beside")
	under := branch("", kid{8, r.byHash(end)}, kid{2, r.byHash(other)})
	middle := ext("4567", r.byHash(under))
	fork := branch("", kid{3, r.byHash(middle)}, kid{4, r.byHash(leaf("44", long))}, kid{5, leaf("1f", "w")})
	over := branch("two", kid{1, leaf("1", "v")}, kid{2, r.byHash(fork)})
	top := ext("01", r.byHash(over))
	return r.lay(top), "\x01\x23\x45\x67\x89", []string{top, over, fork, middle, under, end, other}
}

func hashesOf(bits int, encodings []string) []api.Hash {
	var out []api.Hash
	for _, b := range encodings {
		out = append(out, hashOf(bits, b))
	}
	return out
}

func TestOrderInWhichTheSourceIsAsked(t *testing.T) {
	for _, bits := range []int{20, 100, 256} {
		r := newRig(t, bits)
		root, key, encodings := chain(r)
		for _, c := range []struct {
			what   string
			change api.Change
			asked  int
		}{
			{"a delete that leaves one kid", gone(key), 7},
			{"a put of another value", put(key, "v"), 6},
			{"a put of the value that is there", put(key, long), 6},
			{"a put beyond the leaf", put(key+"\x00", "v"), 6},
			{"a delete of nothing beyond the leaf", gone(key + "\x00"), 6},
			{"a put into the last branch", put("\x01\x23\x45\x67\x39", "v"), 5},
			{"a delete of nothing in the last branch", gone("\x01\x23\x45\x67\x39"), 5},
			{"a put at the last branch", put("\x01\x23\x45\x67", "v"), 5},
			{"a put within the second extension", put("\x01\x23\x45", "v"), 4},
			{"a delete of nothing within it", gone("\x01\x23\x45"), 4},
			{"a put that parts from it", put("\x01\x23\x46", "v"), 4},
			{"a put into the second branch", put("\x01\x29", "v"), 3},
			{"a delete of a whole leaf of three kids", gone("\x01\x25\x1f"), 3},
			{"a delete of a whole leaf beside a value", gone("\x01\x11"), 2},
			{"a put at the first branch", put("\x01", "v"), 2},
			{"a delete of its value", gone("\x01"), 2},
			{"a put at the root", put("", "v"), 1},
			{"a put beside it", put("\x99", "v"), 1},
			{"a delete of nothing there", gone("\x99"), 1},
		} {
			r.anew()
			if _, e := r.do("12.4: "+c.what, root, c.change); e != api.OK || !slices.Equal(r.model.asked, hashesOf(bits, encodings[:c.asked])) {
				t.Errorf("12.4: %s: %d, asked for %.3x", c.what, e, r.model.asked)
			}
			if _, e := r.do("12.4: once more", root, c.change); e != api.OK || len(r.model.asked) != c.asked {
				t.Errorf("12.4: %s: a node that was read is kept: asked %d times", c.what, len(r.model.asked))
			}
		}
		if !r.book.Sound() {
			t.Errorf("the book is not sound: %d bits are too few for this test", bits)
		}
	}
}

// What is staged is read from the stage, whatever the source has.
func TestStagedNodesAreNotAskedFor(t *testing.T) {
	r := newRig(t, 256)
	root, key, encodings := chain(r)
	next := r.done("12.2", root, 6, 6, put(key, long+" now"))
	next = r.done("12.2: the way is staged", next, 0, 6, put(key, long+" then"))
	next = r.done("12.2: the kid that is left is not", next, 1, 4, gone(key))
	if !slices.Equal(r.model.asked, []api.Hash{hashOf(256, encodings[6])}) {
		t.Errorf("12.2: asked for %.3x", r.model.asked)
	}
	r.done("12.2: nothing is needed of the source", next, 0, 6, put(key, "v"))
}

// Whatever number the source answers is the answer, and nothing is asked behind it.
func TestErrorsOfTheSource(t *testing.T) {
	for at := range 7 {
		r := newRig(t, 256)
		root, key, encodings := chain(r)
		h := hashOf(256, encodings[at])
		numbers := []api.Errno{-1, 8, 9, 99999}
		for e := api.ErrHandle; e <= api.ErrQuery; e += 7 {
			numbers = append(numbers, e, e+1)
		}
		staged := r.stage.Len()
		for _, e := range numbers {
			r.src.errs[h] = e
			r.refused(fmt.Sprintf("12.4: error %d at node %d", e, at), root, e, at+1, gone(key))
			r.refused("12.6: behind a change that reads the root alone", root, e, at+1+min(at, 1), gone("\xff"), gone(key))
		}
		if at == 6 {
			r.done("12.4: a put does not look there", root, 6, 5, put(key, "v"))
			staged = r.stage.Len()
		} else {
			r.refused("12.4", root, r.src.errs[h], at+1, put(key, "v"))
		}
		delete(r.src.blobs, h)
		r.refused(fmt.Sprintf("12.4: an error beside no bytes at node %d", at), root, r.src.errs[h], at+1, gone(key))
		delete(r.src.errs, h)
		r.refused(fmt.Sprintf("12.4: node %d is absent", at), root, api.ErrAbsent, at+1, gone(key))
		if at > 0 {
			r.done("12.4: a key that does not lead there", root, 1, 0, gone("\xff"))
		}
		if r.stage.Len() != staged {
			t.Errorf("12.5: something is staged beside an error")
		}
	}
}

// wrongs are bytes that a source may tell instead of others.
func wrongs(encoding string, others []string) []string {
	out := []string{"", "\x00", "\x80", "\xc0", "\x01\x02\x03", encoding[1:], encoding[:len(encoding)-1], encoding + "\x00", encoding + encoding, strings.Repeat("\xff", 2000)}
	for i := range len(encoding) {
		for _, turn := range []byte{1, 128} {
			b := []byte(encoding)
			b[i] ^= turn
			out = append(out, string(b))
		}
	}
	for _, b := range others {
		if b != encoding {
			out = append(out, b)
		}
	}
	return out
}

func TestSourceThatTellsOtherBytes(t *testing.T) {
	for at := range 7 {
		r := newRig(t, 256)
		root, key, encodings := chain(r)
		h := hashOf(256, encodings[at])
		for _, told := range wrongs(encodings[at], append(encodings, leaf("9", long+"!"))) {
			r.src.blobs[h] = told
			r.refused(fmt.Sprintf("12.4: node %d told as %.20x", at, told), root, api.ErrNode, at+1, gone(key))
			if at < 6 {
				r.refused(fmt.Sprintf("12.4: node %d told as %.20x", at, told), root, api.ErrNode, at+1, put(key, "v"))
			}
		}
		if at == 6 {
			r.done("12.4: a put does not look there", root, 6, 5, put(key, "v"))
		}
		r.src.blobs[h] = encodings[at]
		r.anew()
		r.done("12.4: the source tells the right bytes again", root, 7, 4, gone(key))
	}
}

// Nodes off the way may be anything.
func TestNodesOffTheWay(t *testing.T) {
	r := newRig(t, 256)
	root, key, encodings := chain(r)
	for h := range r.src.blobs {
		if !slices.Contains(hashesOf(256, encodings[:6]), h) {
			delete(r.src.blobs, h)
		}
	}
	r.done("12.4", root, 6, 5, put(key, "v"))
	r.done("12.4", root, 6, 7, put(key+"\x01", "v"))
	r.done("12.4", root, 5, 6, put("\x01\x23\x45\x67\x99", long+"!"))
	r.refused("12.4", root, api.ErrAbsent, 7, gone(key))
}

// Bytes under their right hash that are no node, or too short to stand in another one by their hash.
func TestWhatStandsByItsHash(t *testing.T) {
	whole := leaf("9", "a short leaf")
	for _, c := range []struct{ what, kid string }{
		{"no node", "these are some bytes, but they are no node's encoding"},
		{"no byte", ""},
		{"the empty trie's byte", "\x80"},
		{"a short leaf", whole},
		{"a leaf of 31 bytes", leaf("9", strings.Repeat("v", 28))},
		{"a short branch", branch("", kid{1, sibling}, kid{2, sibling})},
	} {
		r := newRig(t, 256)
		root := r.lay(branch("", kid{4, r.byHash(c.kid)}, kid{5, r.byHash(leaf("1", long))}))
		r.refused("12.4: on the way stands "+c.what, root, api.ErrNode, 2, put("\x49", "v"))
		r.refused("12.4: on the way stands "+c.what, root, api.ErrNode, 2, gone("\x49"))
		r.refused("12.4: beside the way stands "+c.what, root, api.ErrNode, 3, gone("\x51"))
		r.done("12.4: off the way stands "+c.what, root, 2, 2, put("\x51", "v"+long))
		over := r.lay(ext("1", r.byHash(c.kid)))
		r.refused("12.4: below an extension stands "+c.what, over, api.ErrNode, 2, put("\x19", "v"))
		r.done("12.4: off the way stands "+c.what, over, 1, 1, put("\x99", "v"))
	}
	r := newRig(t, 256)
	fits := leaf("9", strings.Repeat("v", 29))
	if len(fits) != 32 {
		t.Fatalf("a leaf of %d bytes", len(fits))
	}
	root := r.lay(branch("", kid{4, r.byHash(fits)}, kid{5, leaf("1", "w")}))
	r.done("12.4: a leaf of 32 bytes", root, 2, 1, gone("\x51"))
	r.done("12.4: a root may be short", r.lay(leaf("9a", "v")), 1, 1, put("\x9a", "w"))
}

// What an extension leads to must be a branch, as soon as it is met.
func TestWhatStandsBelowAnExtension(t *testing.T) {
	for _, c := range []struct{ what, next string }{
		{"a leaf", leaf("234", long)},
		{"an extension", ext("2", item(strings.Repeat("h", 32)))},
	} {
		r := newRig(t, 256)
		over := ext("1", r.byHash(c.next))
		root := r.lay(over)
		for _, key := range []string{"\x12", "\x12\x34", "\x19"} {
			r.refused("12.4: below an extension stands "+c.what, root, api.ErrNode, 2, put(key, "v"))
			r.refused("12.4: below an extension stands "+c.what, root, api.ErrNode, 2, gone(key))
		}
		r.done("12.4: it is not met", root, 1, 0, gone("\x99"))
		r.done("12.4: it is not met", root, 1, 1, put("\x99", "v"))
		below := r.lay(branch("", kid{5, r.byHash(over)}, kid{6, leaf("1", "v")}))
		r.anew()
		r.done("12.4: of the kid that is left that alone is looked at", below, 2, 1, gone("\x61"))
	}
}

// The way's own nodes are looked at at their places.
func TestNodesThatMayNotStand(t *testing.T) {
	r := newRig(t, 256)
	odd := r.lay(leaf("123", long))
	full := r.lay(branch("", kid{1, r.byHash(branch(long, kid{2, sibling}))}, kid{2, leaf("12", "v")}))
	deepLeaf := r.lay(ext(deep[:60], r.byHash(branch("", kid{1, r.byHash(leaf("12345", long))}, kid{2, leaf("123", "w")}))))
	for _, c := range []struct {
		root  api.Hash
		key   string
		asked int
	}{{odd, "", 1}, {odd, "\x12", 1}, {odd, "\x99", 1}, {full, "\x12", 2}, {full, "\x19", 2}, {full, "\x21", 1}, {deepLeaf, unhex(deep[:60] + "1234"), 2 + 1}, {deepLeaf, unhex(deep[:60] + "1999"), 2 + 1}} {
		r.refused("12.4: a node that may not stand there", c.root, api.ErrNode, c.asked, put(c.key, "v"))
		r.refused("12.4: a node that may not stand there", c.root, api.ErrNode, c.asked, gone(c.key))
	}
	r.done("12.4: what stands beside it", full, 1, 2, put("\x99", long))
	r.done("12.4: what stands beside it", deepLeaf, 2, 2, put(unhex(deep[:60]+"2123"), "v"))
}

// The empty trie's root is nobody's hash within a trie: there it is read as any other.
func TestEmptyRootWithin(t *testing.T) {
	r := newRig(t, 256)
	h := r.empty()
	root := r.lay(branch("", kid{4, item(string(h[:]))}, kid{5, leaf("1", "v")}))
	r.refused("12.4", root, api.ErrAbsent, 2, put("\x41", "v"))
	r.refused("12.4", root, api.ErrAbsent, 2, gone("\x51"))
	r.lay("\x80")
	r.refused("12.4", root, api.ErrNode, 2, put("\x41", "v"))
	r.refused("12.4", root, api.ErrNode, 2, gone("\x51"))
}

// Over a device that may lie a change comes to the map's root, or to an error.
func TestOverADevice(t *testing.T) {
	rnd := rand.New(rand.NewSource(121))
	wrong, right := 0, 0
	for range rounds(60) {
		book := newBook(t, 256)
		d, e := media.New(4096, 100)
		store, f := hstore.New(d, book, 0)
		if e != api.OK || f != api.OK {
			t.Fatal(e, f)
		}
		r := newRig(t, 256)
		entries := someMap(rnd)
		root := r.plant(entries)
		for _, b := range r.src.blobs {
			if _, e := store.Put([]byte(b)); e != api.OK {
				t.Fatal(e)
			}
		}
		for range 12 {
			s, _ := grow.New(store, book)
			c := someChange(rnd, entries)
			now := changed(entries, c)
			var choices []api.Choice
			for range rnd.Intn(4) {
				choices = append(choices, []api.Choice{{}, {Kind: api.Drop}, {Kind: api.Alter, N: rnd.Intn(99), M: rnd.Intn(256)}}[rnd.Intn(3)])
			}
			d.Choose(choices...)
			got, e := s.Apply(root, []api.Change{c})
			d.Choose() // the list is not there any more
			want, _ := r.trie(now)
			switch {
			case e == api.ErrNode && got == (api.Hash{}) && s.Len() == 0:
				wrong++
			case e != api.OK || got != want:
				t.Fatalf("W1: %s: %x, %d", tell([]api.Change{c}), got, e)
			default:
				right++
			}
		}
	}
	if wrong < 5 || right < 30 {
		t.Errorf("%d changes met a lie, %d did not", wrong, right)
	}
}

// changed tells the map behind a change.
func changed(entries map[string]string, changes ...api.Change) map[string]string {
	out := maps.Clone(entries)
	for _, c := range changes {
		if c.Gone {
			delete(out, string(c.Key))
		} else {
			out[string(c.Key)] = string(c.Value)
		}
	}
	return out
}
