package proof_test

import (
	"fmt"
	"slices"
	"strings"
	"testing"

	"cairn/api"
	"cairn/digest"
	"cairn/grow"
	"cairn/hstore"
	"cairn/media"
	"cairn/proof"
	"cairn/shape"
)

func TestExample4(t *testing.T) {
	r := newRig(t, 256)
	m := r.plant(map[string]string{"k": "v"})
	if len(m.spots) != 1 || m.spots[0].encoding != "\xc4\x82\x20\x6b\x76" {
		t.Fatalf("the trie of k is %x", m.spots)
	}
	for _, key := range []string{"k", "x", "", "kk"} {
		if got := r.prove(m.root, key); got.proof != "\xc6\x85\xc4\x82\x20\x6b\x76" || got.e != api.OK || len(got.asked) != 1 {
			t.Errorf("15.3: example 4: Prove of %q is %v", key, got)
		}
		if got := r.prove(hashOf(256, "\x80"), key); got.proof != "\xc0" || got.e != api.OK || len(got.asked) != 0 {
			t.Errorf("15.3: example 4: Prove of %q over the empty trie is %v", key, got)
		}
	}
}

func TestExample5(t *testing.T) {
	r := newRig(t, 256)
	m := r.plant(map[string]string{"k": "v"})
	if got := r.prove(m.root, strings.Repeat("k", 33)); got.proof != "" || got.e != api.ErrInput || len(got.asked) != 0 {
		t.Errorf("15.3: example 5: a key of 33 bytes: %v", got)
	}
	if b, e := proof.Prove(nil, r.book, m.root, []byte("k")); len(b) != 0 || e != api.ErrHandle {
		t.Errorf("15.3: example 5: a nil source: %x, %d", b, e)
	}
	for _, lost := range []api.Errno{api.ErrAbsent, api.ErrNode, api.ErrDown} {
		r.src.errs[m.root] = lost
		if got := r.prove(m.root, "k"); got.proof != "" || got.e != lost || len(got.asked) != 1 {
			t.Errorf("15.3: example 5: a source that has lost the root's node: %v", got)
		}
	}
}

func TestHandlesAreAskedFirst(t *testing.T) {
	r := newRig(t, 256)
	m := r.plant(map[string]string{"k": "v"})
	for _, root := range []api.Hash{m.root, hashOf(256, "\x80"), {}, {9}} {
		for _, size := range []int{0, 1, 32, 33, 999} {
			for what, c := range map[string]struct {
				src  api.Source
				book *digest.Book
			}{"a nil source": {nil, r.book}, "a nil book": {r.src, nil}, "both nil": {nil, nil}} {
				if b, e := proof.Prove(c.src, c.book, root, make([]byte, size)); len(b) != 0 || e != api.ErrHandle {
					t.Errorf("15.3: %s with a key of %d bytes: %x, %d", what, size, b, e)
				}
			}
		}
	}
	if len(r.src.asked) != 0 {
		t.Errorf("15.3: the source was asked, though there is no book")
	}
}

// A source that is a nil pointer is there: what it answers is the answer.
func TestSourceThatIsANilPointer(t *testing.T) {
	book := newBook(t, 256)
	var none *hstore.Store
	for size, want := range map[int]api.Errno{0: api.ErrHandle, 32: api.ErrHandle, 33: api.ErrInput} {
		if b, e := proof.Prove(none, book, api.Hash{}, make([]byte, size)); len(b) != 0 || e != want {
			t.Errorf("15.3: a key of %d bytes: %x, %d", size, b, e)
		}
	}
	if b, e := proof.Prove(none, book, hashOf(256, "\x80"), nil); string(b) != "\xc0" || e != api.OK {
		t.Errorf("15.3: of the empty trie: %x, %d", b, e)
	}
}

func TestEmptyTries(t *testing.T) {
	for bits := 8; bits <= 256; bits += 31 {
		r := newRig(t, bits)
		empty := hashOf(bits, "\x80")
		r.src.errs[empty] = api.ErrDown // nobody asks for it
		for size := range 33 {
			if got, l := r.ask("15.3", empty, sized(size)); got.proof != "\xc0" || len(got.asked) != 0 || len(l) != 0 {
				t.Errorf("15.3: the empty trie by %d bits: %v", bits, got)
			}
		}
		r.refused("15.3: a key that is too long, over the empty trie", empty, sized(33), api.ErrInput, 0)
	}
	r := newRig(t, 256)
	r.refused("15.3: the empty root of another book", hashOf(64, "\x80"), "k", api.ErrAbsent, 1)
	r.refused("15.3: zeros", api.Hash{}, "k", api.ErrAbsent, 1)
}

func TestLengthsOfKeys(t *testing.T) {
	for size := range 33 {
		r := newRig(t, 256)
		key := strings.Repeat("\x9a", size)
		m := r.plant(map[string]string{key: long})
		two := r.plant(map[string]string{key: long, strings.Repeat("\x17", 32): long})
		for other := range 33 {
			r.proves("15.3", m, strings.Repeat("\x9a", other))
			r.proves("15.3", two, strings.Repeat("\x9a", other))
			r.proves("15.3", two, strings.Repeat("\x17", other))
		}
		if l := r.proves("15.3", two, strings.Repeat("\x17", 32)); len(l) != 2 {
			t.Errorf("15.3: %d strings", len(l))
		}
	}
}

func TestKeysThatAreTooLong(t *testing.T) {
	r := newRig(t, 256)
	m := r.plant(map[string]string{sized(32): "a", "k": "b"})
	down := api.Hash{1}
	r.src.errs[down] = api.ErrDown
	for _, root := range []api.Hash{m.root, hashOf(256, "\x80"), {}, down} {
		for _, size := range []int{33, 34, 64, 65, 5000, 1 << 20} {
			r.refused("15.3: ErrInput is told ahead of what reading answers", root, sized(size), api.ErrInput, 0)
		}
	}
	r.refused("15.3", down, sized(32), api.ErrDown, 1)
}

// chain is a trie in which six nodes are read on the way of one key, and others stand beside it.
func chain(r *rig) (root api.Hash, key string, encodings []string) {
	end := leaf("9", long)
	under := branch(long+" under", kid{8, r.byHash(end)}, kid{2, sibling})
	middle := ext("4567", r.byHash(under))
	fork := branch("", kid{3, r.byHash(middle)}, kid{4, r.byHash(leaf("44", long))}, kid{5, leaf("1f", "w")})
	over := branch("two", kid{1, leaf("1", "v")}, kid{2, r.byHash(fork)})
	top := ext("01", r.byHash(over))
	return r.lay(top), "\x01\x23\x45\x67\x89", []string{top, over, fork, middle, under, end}
}

// A trie that is written out by hand: which nodes each key's proof has, whether the key has something or nothing.
func TestWhichNodesStandInAProof(t *testing.T) {
	for _, bits := range []int{12, 100, 256} {
		r := newRig(t, bits)
		root, key, encodings := chain(r)
		var hashes []api.Hash
		for _, b := range encodings {
			hashes = append(hashes, hashOf(bits, b))
		}
		for other, n := range map[string]int{
			"": 1, "\x00": 1, "\xff": 1, "\x02": 1, "\x01": 2, "\x01\x11": 2, "\x01\x12": 2, "\x01\x33": 2, "\x01\x21": 3, "\x01\x25": 3, "\x01\x25\x1f": 3,
			"\x01\x23": 4, "\x01\x23\x45": 4, "\x01\x23\x45\x66": 4, "\x01\x23\x45\x67": 5, "\x01\x23\x45\x67\x99": 5,
			"\x01\x23\x45\x67\x80": 6, key: 6, key + "\x00": 6, key + key: 6,
		} {
			got, l := r.ask("15.3", root, other)
			if got.e != api.OK || got.proof != listOf(encodings[:n]...) || !slices.Equal(l, encodings[:n]) {
				t.Errorf("15.3: %x: %v, not %d nodes", other, got, n)
			}
			if !slices.Equal(got.asked, hashes[:n]) {
				t.Errorf("15.5: %x: asked for %.3x", other, got.asked)
			}
		}
		if got, l := r.ask("15.3", root, "\x01\x24\x44"); got.e != api.OK || !slices.Equal(l, append(encodings[:3:3], leaf("44", long))) {
			t.Errorf("15.3: a key beside the way: %v", got)
		}
		r.refused("15.5: a whole leaf that ends at half a byte", root, "\x01\x23\x45\x67\x20", api.ErrNode, 5)
		if !r.book.Sound() {
			t.Errorf("the book is not sound: %d bits are too few for this test", bits)
		}
	}
}

// Whatever number the source answers is the answer, and nothing is asked behind it.
func TestSourceThatHasLostANode(t *testing.T) {
	r := newRig(t, 256)
	root, key, encodings := chain(r)
	for at, encoding := range encodings {
		h := hashOf(256, encoding)
		numbers := []api.Errno{-1, 8, 9, 99999}
		for e := api.ErrHandle; e <= api.ErrQuery; e++ {
			numbers = append(numbers, e)
		}
		for _, e := range numbers {
			r.src.errs[h] = e
			r.refused(fmt.Sprintf("15.3: error %d at node %d", e, at), root, key, e, at+1)
		}
		delete(r.src.blobs, h)
		r.refused(fmt.Sprintf("15.3: error beside no bytes at node %d", at), root, key, api.ErrQuery, at+1)
		delete(r.src.errs, h)
		r.refused(fmt.Sprintf("15.3: node %d is lost", at), root, key, api.ErrAbsent, at+1)
		if at > 0 {
			if got, l := r.ask("15.5", root, "\xff"); got.e != api.OK || len(l) != 1 {
				t.Errorf("15.5: a key whose way does not lead to the node that is lost: %v", got)
			}
		}
		r.lay(encoding)
	}
	if got, l := r.ask("15.3", root, key); got.e != api.OK || len(l) != 6 {
		t.Errorf("15.3: with all nodes there again: %v", got)
	}
}

func TestSourceThatTellsOtherBytes(t *testing.T) {
	r := newRig(t, 256)
	root, key, encodings := chain(r)
	for at, encoding := range encodings {
		h := hashOf(256, encoding)
		wrong := []string{"", "\x00", "\x80", "\xc0", encoding[1:], encoding[:len(encoding)-1], encoding + "\x00", encoding + encoding, listOf(encoding), strings.Repeat("\xff", 2000)}
		for i := range len(encoding) {
			b := []byte(encoding)
			b[i] ^= 1 << (i % 8)
			wrong = append(wrong, string(b))
		}
		for _, other := range encodings {
			if other != encoding {
				wrong = append(wrong, other)
			}
		}
		for _, b := range wrong {
			r.src.blobs[h] = b
			r.refused(fmt.Sprintf("15.3: node %d told as %.20x", at, b), root, key, api.ErrNode, at+1)
		}
		r.src.blobs[h] = encoding
	}
}

// Bytes that have the right hash, and are no node, or one that may not stand there.
func TestNodesThatMayNotBe(t *testing.T) {
	for _, b := range []string{"", "\x00", "\xc0", "no node, in more than thirty-one bytes", leaf("9", long) + "\x00", listOf(leaf("9", long)), leaf("", long), leaf("99", long), leaf(strings.Repeat("9", 63)+"12", long), leaf("9", "short"), sized(1024), sized(1025), strings.Repeat("\xc1", 5000)} {
		r := newRig(t, 256)
		root := r.lay(branch("", kid{1, r.byHash(b)}, kid{2, sibling}))
		r.refused(fmt.Sprintf("15.3: %.20x below the root", b), root, "\x19", api.ErrNode, 2)
		if got, l := r.ask("15.5", root, "\x39"); got.e != api.OK || len(l) != 1 {
			t.Errorf("15.5: what is not met is not looked at: %v", got)
		}
	}
}

// stairs is a map whose trie has 65 nodes on the way of one key, each of them as long as it can be.
func stairs() (entries map[string]string, key string) {
	most := strings.Repeat("\xee", api.MaxValue)
	entries = map[string]string{}
	for i := range 64 {
		for _, digit := range "0123456789abcdef" {
			digits := deep[:i] + string(digit)
			if len(digits)%2 == 1 {
				digits += "7"
			}
			if !strings.HasPrefix(deep, digits[:i+1]) {
				entries[unhex(digits)] = most
			}
		}
		if i%2 == 0 {
			entries[unhex(deep[:i])] = most
		}
	}
	entries[unhex(deep)] = most
	return entries, unhex(deep)
}

func TestLongestProof(t *testing.T) {
	r := newRig(t, 256)
	entries, key := stairs()
	m := r.plant(entries)
	l := r.proves("15.3", m, key)
	if len(l) != 65 {
		t.Fatalf("15.3: a proof of %d strings, where 65 nodes are to be read", len(l))
	}
	for n := range 33 {
		if some := r.proves("15.7", m, key[:n]); !slices.Equal(some, l[:2*n+1]) {
			t.Errorf("15.7: the proof of the first %d bytes has %d strings", n, len(some))
		}
	}
}

// With few bits a node can lead to itself: its encoding stands in the proof as often as it is read.
func TestNodesThatLeadToThemselves(t *testing.T) {
	for _, bits := range []int{8, 12} {
		r := newRig(t, bits)
		around := ""
		for i := 0; ; i++ {
			h := api.Hash{byte(i), byte(i>>8) << 4}
			self := item(string(h[:]))
			around = branch("", kid{1, self}, kid{2, self}, kid{3, leaf(strings.Repeat("4", 20), fmt.Sprint(i))})
			if hashOf(bits, around) == h {
				break
			}
		}
		root := r.lay(around)
		for n := range 33 {
			if got, l := r.ask("15.3", root, strings.Repeat("\x12", n)); got.e != api.OK || !slices.Equal(l, many(2*n+1, around)) {
				t.Errorf("15.3: %v", got)
			}
		}
	}
}

// Other sources than a shelf: a stage, a store over a device.
func TestOverOtherSources(t *testing.T) {
	entries := grove()
	for _, bits := range []int{40, 256} {
		book := newBook(t, bits)
		m := plant(bits, entries)
		d, _ := media.New(64, 20)
		st, _ := hstore.New(d, book, 3)
		stage, _ := grow.New(st, book)
		root := hashOf(bits, "\x80")
		var listed []api.Entry
		for key, value := range entries {
			root, _ = stage.Put(root, []byte(key), []byte(value))
			listed = append(listed, api.Entry{Key: []byte(key), Value: []byte(value)})
		}
		blobs, e := shape.Nodes(book, shape.Sort(listed))
		for _, b := range blobs {
			st.Put(b.Data)
		}
		if root != m.root || e != api.OK || !book.Sound() {
			t.Fatalf("the trie's root is %x, %d, not %x", root, e, m.root)
		}
		for _, key := range nearAll(entries) {
			for what, src := range map[string]api.Source{"a stage": stage, "a store": st} {
				if b, e := proof.Prove(src, book, root, []byte(key)); string(b) != listOf(m.trail(key)...) || e != api.OK {
					t.Fatalf("15.3: over %s: Prove of %x is %x, %d", what, key, b, e)
				}
			}
		}
	}
}

// Over a device that lies a proof is the right one, or there is none.
func TestOverADeviceThatLies(t *testing.T) {
	r := newRig(t, 256)
	root, key, encodings := chain(r)
	for at := range encodings {
		for kind := range api.Choices {
			for n := range 3 {
				d, _ := media.New(64, 20)
				st, _ := hstore.New(d, r.book, 0)
				for _, b := range encodings {
					st.Put([]byte(b))
				}
				choices := make([]api.Choice, at+1)
				choices[at] = api.Choice{Kind: kind, N: n, M: 40 * n}
				d.Choose(choices...)
				was := len(d.Accesses())
				b, e := proof.Prove(st, r.book, root, []byte(key))
				made := len(d.Accesses()) - was
				if e == api.OK && (string(b) != listOf(encodings...) || made != len(encodings)) || e != api.OK && (len(b) != 0 || made > len(encodings)) {
					t.Errorf("15.3: choice %d at access %d: %.20x, %d, %d accesses", kind, at, b, e, made)
				}
				if wrong := kind == api.Alter || kind == api.Drop; wrong && e != api.ErrNode || kind == api.Crash && e != api.ErrDown || kind == api.Honest && e != api.OK {
					t.Errorf("15.3: choice %d at access %d: error %d", kind, at, e)
				}
			}
		}
	}
}
