package span_test

import (
	"fmt"
	"strings"
	"testing"

	"cairn/api"
	"cairn/digest"
	"cairn/span"
)

func TestNumbers(t *testing.T) {
	if api.ErrHandle != 1 || api.ErrInput != 2 || api.ErrNode != 5 || api.ErrFull != 6 || api.ErrProof != 160 || api.MaxKey != 32 || api.MaxProof != 131072 {
		t.Errorf("chapter 17, Errors: %d, %d, %d, %d, %d; keys of %d bytes, proofs of %d", api.ErrHandle, api.ErrInput, api.ErrNode, api.ErrFull, api.ErrProof, api.MaxKey, api.MaxProof)
	}
}

// three is the map of the examples.
func three() map[string]string { return map[string]string{"": "e", "k": "v", "l": "w"} }

func TestExample1(t *testing.T) {
	r := newRig(t, 256)
	m := r.plant(three())
	inner := branch("", kid{11, leaf("", "v")}, kid{12, leaf("", "w")})
	if top := branch("e", kid{6, inner}); len(m.spots) != 1 || m.spots[0].encoding != top {
		t.Fatalf("the example's trie: %x", m.spots)
	}
	r.tells("17.4: example 1: Open", m.root, from(""), 1, "", "k", "l")
	r.tells("17.4: example 1: from k to l", m.root, within("k", "l"), 1, "k")
	r.tells("17.4: example 1: from k to k", m.root, within("k", "k"), 1)
	r.tells("17.4: example 1: from m", m.root, from("m"), 1)
	for _, root := range []api.Hash{m.root, {}, {9}, emptyRoot(256), r.hash("")} {
		if got, _ := r.both("17.2: example 1: to nothing", root, within("", "")); got.proof != "\xc0" || got.e != api.OK || len(got.asked) != 0 {
			t.Errorf("17.2: example 1: %x, %d, with %d asked", got.proof, got.e, len(got.asked))
		}
		r.proves("17.3: example 1: to nothing", root, within("", ""), nil)
	}
}

func TestExample2(t *testing.T) {
	r := newRig(t, 256)
	empty := emptyRoot(256)
	for _, b := range []bounds{from(""), from("k"), within("", "k"), within("k", "l"), within("l", "k"), within("", "")} {
		if got, v := r.both("17.2: example 2", empty, b); got.proof != "\xc0" || len(got.asked) != 0 || len(v.entries) != 0 || v.e != api.OK {
			t.Errorf("17.2: example 2: %v: %x, %v", b, got.proof, v)
		}
		for _, other := range []string{"", "\x80", "\xc1\x78", listOf("\x80"), listOf(leaf("6b", "v")), "\xc0\x00"} {
			r.refusesBytes("17.3: example 2", empty, b, other)
		}
	}
}

func TestExample3(t *testing.T) {
	r := newRig(t, 256)
	m := r.plant(three())
	r.proves("17.3: example 3", m.root, from("k"), []pair{{"k", "v"}, {"l", "w"}}, m.shown(from(""))...)
	greater := r.plant(map[string]string{"": "e", "k": "v", "l": "w", "a": long, "z": long})
	all := greater.shown(from(""))
	if len(all) < 3 {
		t.Fatalf("the greater trie has %d nodes by their hashes", len(all))
	}
	r.proves("17.3: example 3: the greater map", greater.root, from(""), greater.has(from("")).entries, all...)
	r.refuses("17.3: example 3: bounds that cut nodes off", greater.root, from("k"), all...)
	r.refuses("17.3: example 3: bounds that cut nodes off", greater.root, within("", "l"), all...)
}

func TestExample4(t *testing.T) {
	r := newRig(t, 256)
	m := r.plant(three())
	if p, e := span.Prove(nil, r.book, m.root, api.Bounds{Open: true}); len(p) != 0 || e != api.ErrHandle {
		t.Errorf("17.2: example 4: a nil source: %x, %d", p, e)
	}
	r.refused("17.2: example 4: From of 33 bytes", m.root, from(sized(33)), api.ErrInput, 0)
	r.refused("17.2: example 4: Open with To", m.root, bounds{"", "x", true}, api.ErrInput, 0)
}

// wrongBounds may not be.
func wrongBounds() []bounds {
	return []bounds{
		from(sized(33)), from(sized(1000)), within(sized(33), ""), within("", sized(33)), within(sized(33), sized(33)), within(sized(33), sized(32)), within(sized(32), sized(33)), within("", sized(99999)),
		{"", "x", true}, {"", "\x00", true}, {"a", "b", true}, {"b", "a", true}, {"", sized(32), true}, {"", sized(33), true}, {sized(33), "x", true}, {sized(32), sized(32), true},
	}
}

// rightBounds may be.
func rightBounds() []bounds {
	return []bounds{from(""), from(sized(31)), from(sized(32)), within("", ""), within(sized(32), sized(32)), within("", sized(32)), within(sized(32), ""), within("\xff", "\x00"), within("a", "b")}
}

// The source and the book are looked for first, then the bounds, whatever root, source and proof are.
func TestErrorsInTheirOrder(t *testing.T) {
	r := newRig(t, 256)
	m := r.plant(three())
	p := m.proof(from(""))
	for _, root := range []api.Hash{m.root, emptyRoot(256), {}, {9}} {
		for _, b := range append(wrongBounds(), rightBounds()...) {
			for i, c := range []struct {
				src  api.Source
				book *digest.Book
			}{{nil, nil}, {nil, r.book}, {r.src, nil}} {
				r.src.asked = nil
				if got, e := span.Prove(c.src, c.book, root, boundsOf(b)); got != nil || e != api.ErrHandle || len(r.src.asked) != 0 {
					t.Errorf("17.2: case %d: %v: %x, %d, with %d asked", i, b, got, e, len(r.src.asked))
				}
			}
			for _, bytes := range []string{p, "\xc0", "", "\x80", sized(131073)} {
				if l, e := span.Verify(nil, root, boundsOf(b), []byte(bytes)); l != nil || e != api.ErrHandle {
					t.Errorf("17.3: a nil book: %v: %v, %d", b, l, e)
				}
			}
		}
		for _, b := range wrongBounds() {
			r.refused("17.2: bounds that may not be", root, b, api.ErrInput, 0)
			for _, bytes := range []string{p, "\xc0", "", "\x80", sized(131073)} {
				if v := r.verify("17.3: bounds that may not be", root, b, bytes); !v.is(verdict{e: api.ErrInput}) {
					t.Errorf("17.3: %v: %v", b, v)
				}
			}
		}
		for _, b := range rightBounds() {
			if got, v := r.both("17.2: bounds that may be", root, b); got.e == api.ErrInput || v.e == api.ErrInput {
				t.Errorf("17.2: %v: %d, %d", b, got.e, v.e)
			}
		}
	}
}

func TestEmptyTries(t *testing.T) {
	for _, bits := range []int{8, 9, 12, 31, 64, 100, 255, 256} {
		r := newRig(t, bits)
		empty := emptyRoot(bits)
		for _, b := range rightBounds() {
			r.tells("17.2: c0", empty, b, 0)
		}
		others := []string{"", "\xc0\x00", "\xc0\xc0", "\xc1\x80", "\xc1\xc0", "\xf8\x00", "\xf7", listOf("\x80"), listOf("\x80", "\x80"), listOf("\xc0"), listOf(leaf("6b", "v")), listOf(leaf("6b", long)), listOf(sized(1024)), listOf(many(127, sized(1024))...), sized(131072), sized(131073)}
		for i := range 256 {
			if i != 0xc0 {
				others = append(others, string([]byte{byte(i)}))
			}
			others = append(others, string([]byte{byte(i), byte(3 * i)}), string([]byte{0xc1, byte(i)}), string([]byte{0xc0, byte(i)}))
		}
		for i, bytes := range others {
			r.refusesBytes("17.3: not c0", empty, from(""), bytes)
			r.refusesBytes("17.3: not c0", empty, rightBounds()[i%len(rightBounds())], bytes)
		}
	}
}

// To nothing: no key is ahead of the empty one, so nothing is read, whatever the root and the source.
func TestToNothing(t *testing.T) {
	for _, bits := range []int{8, 12, 256} {
		r := newRig(t, bits)
		m := r.plant(grove())
		r.src.errs[m.root] = api.ErrDown
		for _, root := range []api.Hash{m.root, {}, {9}, emptyRoot(bits), r.hash(long), r.lay("no node")} {
			for _, low := range []string{"", "\x00", "\x12", "k", sized(32), strings.Repeat("\xff", 32)} {
				r.tells("17.2: to nothing", root, within(low, ""), 0)
				for _, other := range []string{"", "\x80", "\xc1\x80", "\xc1\x01", m.proof(from("")), listOf(m.shown(from(""))[0]), listOf("\x80")} {
					r.refusesBytes("17.3: to nothing", root, within(low, ""), other)
				}
			}
			if low := within("", "\x00"); root != emptyRoot(bits) {
				if got := r.prove("17.2: to the least key but one", root, low); len(got.asked) != 1 || got.e == api.OK {
					t.Errorf("17.2: %d asked, %d", len(got.asked), got.e)
				}
			}
		}
	}
}

// As a root the empty trie's is the empty trie, even if there is a node with that hash; in a node it is read.
func TestNodesWithTheEmptyTriesHash(t *testing.T) {
	for _, bits := range []int{8, 12} {
		r := newRig(t, bits)
		empty := emptyRoot(bits)
		l := leafWithHash(bits, "12", empty)
		r.lay(l)
		r.tells("17.2: a leaf with the empty trie's hash", empty, from(""), 0)
		r.refuses("17.3: a leaf with the empty trie's hash", empty, from(""), l)
		inner := leafWithHash(bits, "2", empty)
		r.lay(inner)
		top := branch("", kid{1, item(string(empty[:]))}, kid{2, sibling(1)})
		root := r.lay(top)
		r.tells("17.2: a hash that stands in a node is read, whatever it is", root, within("", "\x1f"), 2, "\x12")
		r.refuses("17.3: a hash that stands in a node is read, whatever it is", root, within("", "\x1f"), top)
		r.refuses("17.3: a hash that stands in a node is read, whatever it is", root, within("", "\x1f"), top, "\x80")
	}
	r := newRig(t, 256)
	empty := emptyRoot(256)
	root := r.lay(branch("", kid{1, item(string(empty[:]))}, kid{2, item(string(make([]byte, 32)))}, kid{3, sibling(1)}))
	r.refused("17.2: the empty trie's root in a node", root, from(""), api.ErrAbsent, 2)
	r.refused("17.2: zeros in a node", root, from("\x20"), api.ErrAbsent, 2)
	r.src.blobs[empty], r.src.blobs[api.Hash{}] = "\x80", ""
	r.refused("17.2: the empty trie's root in a node", root, from(""), api.ErrNode, 2)
	r.refused("17.2: zeros in a node", root, from("\x20"), api.ErrNode, 2)
	r.tells("17.2: what is not gone into is not read", root, from("\x30"), 1, "\x37")
}

func TestNoStringsUnderOtherRoots(t *testing.T) {
	for _, bits := range []int{8, 12, 64, 256} {
		r := newRig(t, bits)
		roots := []api.Hash{{}, {9}, r.hash(leaf("6b", "v")), r.hash("")}
		if bits < 256 {
			roots = append(roots, emptyRoot(256))
		} else {
			roots = append(roots, emptyRoot(64), emptyRoot(255))
		}
		for _, root := range roots {
			if root == emptyRoot(bits) {
				continue
			}
			for _, b := range []bounds{from(""), from("k"), within("", "k"), within("k", "k"), within(sized(32), "\x00")} {
				r.refuses("17.3: c0 under a root that is not the empty trie's", root, b)
				r.refused("17.2: a root that nobody has", root, b, api.ErrAbsent, 1)
			}
		}
	}
}

// One entry: the root is a leaf, whatever the bounds.
func TestOneEntry(t *testing.T) {
	for _, key := range []string{"", "\x00", "k", "\xff\xff", sized(31), sized(32), strings.Repeat("\xff", 32), strings.Repeat("\x00", 32)} {
		for _, value := range []string{"v", "\x00", "\x80", long, strings.Repeat("\xee", 256)} {
			if testing.Short() && value != "v" && value != long {
				continue
			}
			r := newRig(t, 256)
			m := r.plant(map[string]string{key: value})
			r.tells("17.2: nothing is left out", m.root, from(""), 1, key)
			r.tells("17.2: from the key on", m.root, from(key), 1, key)
			r.tells("17.2: the key alone", m.root, within(key, (key + "\x00")[:min(32, len(key)+1)]), 1, onlyIf(len(key) < 32, key)...)
			for _, b := range allBounds(keysAround([]string{key})) {
				if (len(b.from)+3*len(b.to))%31 > 0 && len(key) > 5 { // of the many all kinds, not all
					continue
				}
				got, v := r.both("17.4", m.root, b)
				if !v.is(m.has(b)) || got.proof != m.proof(b) {
					t.Errorf("17.4: %x: %v: %v, not %v", key, b, v, m.has(b))
				}
			}
		}
	}
}

func onlyIf(so bool, key string) []string {
	if so {
		return []string{key}
	}
	return nil
}

// Keys of all lengths that may be, as entries and as bounds.
func TestLengthsOfKeys(t *testing.T) {
	for size := range 33 {
		key := strings.Repeat("\x9a", size)
		for _, value := range []string{"v", long} {
			r := newRig(t, 256)
			m := r.plant(map[string]string{key: value, strings.Repeat("\x17", 32): long, "\xa0": "w"})
			for other := range 34 {
				if testing.Short() && (size+other)%3 > 0 && other < 31 {
					continue
				}
				for _, b := range []bounds{from(strings.Repeat("\x9a", other)), within("", strings.Repeat("\x9a", other)), within(strings.Repeat("\x17", other), strings.Repeat("\x9a", other)), within(strings.Repeat("\x9a", other), strings.Repeat("\x9b", other))} {
					got, v := r.both("17.4", m.root, b)
					if other == 33 {
						if got.e != api.ErrInput || !v.is(verdict{e: api.ErrInput}) {
							t.Errorf("17.2: %v: %d, %v", b, got.e, v)
						}
						continue
					}
					if got.e != api.OK || !v.is(m.has(b)) {
						t.Errorf("17.4: %v: %d, %v, not %v", b, got.e, v, m.has(b))
					}
				}
			}
		}
	}
}

// A proof that is right by a book of so many bits, held against roots of books of others.
func TestBooksOfOtherBits(t *testing.T) {
	for _, bits := range []int{8, 16, 40, 200, 255, 256} {
		m := plant(bits, grove())
		for _, others := range []int{8, 16, 40, 200, 255, 256} {
			r := newRig(t, others)
			for _, b := range []bounds{from(""), from("\x12\x35"), within("\x12", "\x78")} {
				got := r.verify("17.3", m.root, b, m.proof(b))
				if bits == others && !got.is(m.has(b)) || bits != others && !got.is(proofless) {
					t.Errorf("17.3: a proof of %d bits by a book of %d: %v", bits, others, got)
				}
			}
		}
	}
}

// A source that is a nil map is no nil source.
func TestSourcesThatAreNotNil(t *testing.T) {
	book := newBook(t, 256)
	if p, e := span.Prove(keeper(nil), book, api.Hash{1}, api.Bounds{Open: true}); len(p) != 0 || e != api.ErrAbsent {
		t.Errorf("17.2: %x, %d", p, e)
	}
	if p, e := span.Prove(keeper(nil), book, emptyRoot(256), api.Bounds{Open: true}); string(p) != "\xc0" || e != api.OK {
		t.Errorf("17.2: %x, %d", p, e)
	}
}

// leafWithHash tells a leaf of more than 31 bytes that has this hash.
func leafWithHash(bits int, path string, h api.Hash) string {
	for i := 0; ; i++ {
		if l := leaf(path, fmt.Sprintf("%s, number %010d", long, i)); hashOf(bits, l) == h {
			return l
		}
	}
}
