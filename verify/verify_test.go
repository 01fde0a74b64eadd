package verify_test

import (
	"fmt"
	"slices"
	"strings"
	"testing"

	"cairn/api"
	"cairn/verify"
)

func TestExample1(t *testing.T) {
	book := newBook(t, 256)
	empty := emptyRoot(256)
	if v, found, e := verify.Verify(book, empty, []byte("k"), []byte{0xc0}); len(v) != 0 || found || e != api.OK {
		t.Errorf("16.2: example 1: c0: %x, %v, %d", v, found, e)
	}
	for _, b := range [][]byte{{0xc1, 0x78}, {}, nil} {
		if v, found, e := verify.Verify(book, empty, []byte("k"), b); len(v) != 0 || found || e != api.ErrProof {
			t.Errorf("16.2: example 1: %x: %x, %v, %d", b, v, found, e)
		}
	}
}

func TestExample2(t *testing.T) {
	r := newRig(t, 256)
	one := "\xc4\x82\x20\x6b\x76"
	root := hashOf(256, one)
	if leaf("6b", "v") != one || listOf(one) != "\xc6\x85\xc4\x82\x20\x6b\x76" {
		t.Fatalf("the leaf is %x, its proof %x", leaf("6b", "v"), listOf(one))
	}
	r.proves("16.3: example 2", root, "k", "v", one)
	for _, key := range []string{"x", "", "kk"} {
		r.provesNone("16.3: example 2", root, key, one)
	}
	for _, key := range []string{"k", "x", "", "kk"} {
		r.refuses("16.3: example 2: the leaf twice", root, key, one, one)
		r.refuses("16.3: example 2: c0", root, key)
		r.refuses("16.3: example 2: another value in the leaf", root, key, leaf("6b", "w"))
	}
}

func TestExample3(t *testing.T) {
	book := newBook(t, 256)
	one := leaf("6b", "v")
	root, b := hashOf(256, one), []byte(listOf(one))
	if v, found, e := verify.Verify(book, root, make([]byte, 33), b); len(v) != 0 || found || e != api.ErrInput {
		t.Errorf("16.3: example 3: a key of 33 bytes: %x, %v, %d", v, found, e)
	}
	if v, found, e := verify.Verify(nil, root, make([]byte, 33), b); len(v) != 0 || found || e != api.ErrHandle {
		t.Errorf("16.3: example 3: a nil book: %x, %v, %d", v, found, e)
	}
	if l := verify.All(book, root); len(l) != 0 {
		t.Errorf("16.4: example 3: no claims: %v", l)
	}
	if l := verify.All(nil, root, verify.Claim{Key: []byte("k"), Proof: b}); len(l) != 1 || verdictOf(l[0]) != (verdict{e: api.ErrHandle}) {
		t.Errorf("16.4: example 3: a nil book: %v", l)
	}
}

// The book is asked for first, then the key's length, whatever root and proof are; only then the proof.
func TestErrorsInTheirOrder(t *testing.T) {
	r := newRig(t, 256)
	one := leaf("6b", "v")
	for _, root := range []api.Hash{hashOf(256, one), emptyRoot(256), {}, {9}} {
		for _, b := range []string{listOf(one), "\xc0", "", "\x80", listOf(one, one), sized(131073), "\xc1\xc0"} {
			for _, size := range []int{0, 1, 32, 33, 34, 64, 999, 1 << 20} {
				key := sized(size)
				if v, found, e := verify.Verify(nil, root, []byte(key), []byte(b)); len(v) != 0 || found || e != api.ErrHandle {
					t.Errorf("16.3: a nil book with a key of %d bytes: %x, %v, %d", size, v, found, e)
				}
				got := r.ask("16.3", root, key, b)
				if (size > 32) != (got == verdict{e: api.ErrInput}) {
					t.Errorf("16.3: a key of %d bytes with %.20x: %v", size, b, got)
				}
			}
		}
	}
}

func TestEmptyTries(t *testing.T) {
	for _, bits := range []int{8, 9, 12, 31, 64, 100, 255, 256} {
		r := newRig(t, bits)
		empty := emptyRoot(bits)
		for size := range 33 {
			r.provesNone("16.2: c0", empty, sized(size))
		}
		others := []string{"", "\xc0\x00", "\xc0\xc0", "\xc1\x80", "\xc1\xc0", "\xf8\x00", "\xf7", listOf("\x80"), listOf("\x80", "\x80"), listOf("\xc0"), listOf(leaf("6b", "v")), listOf(leaf("6b", long)), listOf(sized(1024)), listOf(many(127, sized(1024))...), sized(131072), sized(131073)}
		for i := range 256 {
			if i != 0xc0 {
				others = append(others, string([]byte{byte(i)}))
			}
			others = append(others, string([]byte{byte(i), byte(3 * i)}), string([]byte{0xc1, byte(i)}), string([]byte{0xc0, byte(i)}))
		}
		for _, b := range others {
			r.refusesBytes("16.2: not c0", empty, "k", b)
			r.refusesBytes("16.2: not c0", empty, "", b)
		}
	}
}

// As a root the empty trie's is the empty trie, even if there is a node with that hash.
func TestNodesWithTheEmptyTriesHash(t *testing.T) {
	for _, bits := range []int{8, 12} {
		r := newRig(t, bits)
		empty := emptyRoot(bits)
		l := leafWithHash(bits, "12", empty)
		r.refuses("16.2: a leaf with the empty trie's hash", empty, "\x12", l)
		r.provesNone("16.2: c0", empty, "\x12")
		inner := leafWithHash(bits, "2", empty)
		top := branch("", kid{1, item(string(empty[:]))}, kid{2, sibling})
		r.proves("16.3: a hash that stands in a node is read, whatever it is", r.hash(top), "\x12", valueIn(inner), top, inner)
		r.refuses("16.3: a hash that stands in a node is read, whatever it is", r.hash(top), "\x12", top)
		r.refuses("16.3: a hash that stands in a node is read, whatever it is", r.hash(top), "\x12", top, "\x80")
	}
	r := newRig(t, 256)
	empty := emptyRoot(256)
	top := branch("", kid{1, item(string(empty[:]))}, kid{2, item(string(make([]byte, 32)))})
	for _, key := range []string{"\x12", "\x22"} {
		r.refuses("16.3: a hash that stands in a node is read, whatever it is", r.hash(top), key, top)
		r.refuses("16.3: a hash that stands in a node is read, whatever it is", r.hash(top), key, top, "\x80")
	}
	r.provesNone("16.3: what is not on the way is not read", r.hash(top), "\x32", top)
	r.provesNone("16.3: what is not on the way is not read", r.hash(top), "", top)
}

func TestNoStringsUnderOtherRoots(t *testing.T) {
	for _, bits := range []int{8, 12, 64, 256} {
		r := newRig(t, bits)
		roots := []api.Hash{{}, {9}, hashOf(bits, leaf("6b", "v")), hashOf(bits, "")}
		if bits < 256 {
			roots = append(roots, emptyRoot(256))
		} else {
			roots = append(roots, emptyRoot(64), emptyRoot(255))
		}
		for _, root := range roots {
			if root == emptyRoot(bits) {
				continue
			}
			for _, key := range []string{"", "k", sized(32)} {
				r.refuses("16.3: c0 under a root that is not the empty trie's", root, key)
			}
		}
	}
}

// A proof that is right by a book of so many bits, held against roots of books of others.
func TestBooksOfOtherBits(t *testing.T) {
	for _, bits := range []int{8, 16, 40, 200, 255, 256} {
		m := plant(bits, grove())
		for _, others := range []int{8, 16, 40, 200, 255, 256} {
			r := newRig(t, others)
			got := r.ask("16.3", m.root, "\x12\x34", m.proof("\x12\x34"))
			if bits == others && got != m.has("\x12\x34") || bits != others && got != proofless {
				t.Errorf("16.3: a proof of %d bits by a book of %d: %v", bits, others, got)
			}
		}
	}
}

func TestLengthsOfKeys(t *testing.T) {
	for size := range 33 {
		key := strings.Repeat("\x9a", size)
		r := newRig(t, 256)
		for _, value := range []string{"v", long, strings.Repeat("\xee", 256)} {
			one := plant(256, map[string]string{key: value})
			two := plant(256, map[string]string{key: value, strings.Repeat("\x17", 32): long})
			for other := range 33 {
				for _, k := range []string{strings.Repeat("\x9a", other), strings.Repeat("\x17", other)} {
					for _, m := range []*trie{one, two} {
						if got := r.ask("16.3", m.root, k, m.proof(k)); got != m.has(k) {
							t.Errorf("16.3: a key of %d bytes: %v, not %v", other, got, m.has(k))
						}
					}
				}
			}
			for _, m := range []*trie{one, two} {
				if got := r.ask("16.3", m.root, strings.Repeat("\x9a", 33), m.proof(key)); got != (verdict{e: api.ErrInput}) {
					t.Errorf("16.3: a key of 33 bytes: %v", got)
				}
			}
		}
	}
}

// chain is a trie in which six nodes are read on the way of one key, and others stand beside it.
func chain(bits int) (root api.Hash, key string, encodings []string) {
	end := leaf("9", long)
	under := branch(long+" under", kid{8, refTo(bits, end)}, kid{2, leaf("1", "w")})
	middle := ext("4567", refTo(bits, under))
	fork := branch("", kid{3, refTo(bits, middle)}, kid{4, refTo(bits, leaf("44", long))}, kid{5, leaf("1f", "w")})
	over := branch("two", kid{1, leaf("1", "v")}, kid{2, refTo(bits, fork)})
	top := ext("01", refTo(bits, over))
	return hashOf(bits, top), "\x01\x23\x45\x67\x89", []string{top, over, fork, middle, under, end}
}

// chainKeys are keys of that trie: how many of the six are on each one's way, and what it has there.
func chainKeys() map[string]struct {
	n     int
	value string
} {
	return map[string]struct {
		n     int
		value string
	}{
		"": {1, ""}, "\x00": {1, ""}, "\xff": {1, ""}, "\x02": {1, ""}, "\x11": {1, ""},
		"\x01": {2, "two"}, "\x01\x11": {2, "v"}, "\x01\x12": {2, ""}, "\x01\x11\x00": {2, ""}, "\x01\x33": {2, ""},
		"\x01\x21": {3, ""}, "\x01\x25": {3, ""}, "\x01\x25\x1f": {3, "w"}, "\x01\x25\x10": {3, ""},
		"\x01\x23": {4, ""}, "\x01\x23\x45": {4, ""}, "\x01\x23\x45\x66": {4, ""}, "\x01\x23\x55\x67": {4, ""},
		"\x01\x23\x45\x67": {5, long + " under"}, "\x01\x23\x45\x67\x99": {5, ""}, "\x01\x23\x45\x67\x21": {5, "w"}, "\x01\x23\x45\x67\x20": {5, ""},
		"\x01\x23\x45\x67\x89": {6, long}, "\x01\x23\x45\x67\x80": {6, ""}, "\x01\x23\x45\x67\x89\x00": {6, ""}, "\x01\x23\x45\x67\x88\x99": {6, ""},
	}
}

// A trie that is written out by hand: what each key's way shows, and that neither more nor fewer of its nodes prove anything.
func TestWhatIsShown(t *testing.T) {
	for _, bits := range []int{12, 100, 256} {
		r := newRig(t, bits)
		root, _, encodings := chain(bits)
		for key, c := range chainKeys() {
			for n := range 7 {
				got := r.ask("16.3", root, key, listOf(encodings[:n]...))
				if n == c.n && got != (verdict{c.value, c.value != "", api.OK}) || n != c.n && got != proofless {
					t.Errorf("16.3: %x with %d nodes: %v, where %d show %.20q", key, n, got, c.n, c.value)
				}
			}
		}
	}
}

func TestKeysBesideTheWay(t *testing.T) {
	r := newRig(t, 256)
	root, _, encodings := chain(256)
	beside := leaf("44", long)
	l := append(slices.Clone(encodings[:3]), beside)
	r.proves("16.3: a key beside the way", root, "\x01\x24\x44", long, l...)
	for _, key := range []string{"\x01\x24", "\x01\x24\x45", "\x01\x24\x44\x44"} {
		r.provesNone("16.3: a key beside the way", root, key, l...)
	}
	for key := range chainKeys() {
		r.refuses("16.3: a leaf beside the way", root, key, l...)
	}
}

func TestExtensionsAndTheRest(t *testing.T) {
	r := newRig(t, 256)
	end := leaf("f", long)
	below := branch("at its end", kid{0, leaf("1", "behind")}, kid{15, r.byHash(end)})
	bare := branch("", kid{0, leaf("1", "behind")}, kid{15, r.byHash(end)})
	for _, b := range []string{below, bare} {
		top := ext("123456", r.byHash(b))
		root := r.hash(top)
		if b == below {
			r.proves("16.3: the rest is the path", root, "\x12\x34\x56", "at its end", top, b)
		} else {
			r.provesNone("16.3: the rest is the path, and the branch has no value", root, "\x12\x34\x56", top, b)
		}
		r.proves("16.3: the rest goes on", root, "\x12\x34\x56\x01", "behind", top, b)
		r.proves("16.3: the rest goes on", root, "\x12\x34\x56\xff", long, top, b, end)
		r.provesNone("16.3: the rest goes on to nothing", root, "\x12\x34\x56\x11", top, b)
		for _, key := range []string{"", "\x12", "\x12\x34", "\x02\x34\x56", "\x13\x34\x56", "\x12\x33\x56", "\x12\x34\x46", "\x12\x34\x57", "\x12\x34\x57\x01", "\x56", "\x65\x43\x21"} {
			r.provesNone("16.3: the rest does not begin with the path", root, key, top)
			r.refuses("16.3: the branch is not on the way", root, key, top, b)
		}
	}
	whole := branch("v", kid{3, leaf("4", "w")})
	top := ext("12", whole)
	r.proves("16.3: over a whole branch", r.hash(top), "\x12", "v", top)
	r.proves("16.3: over a whole branch", r.hash(top), "\x12\x34", "w", top)
	r.provesNone("16.3: over a whole branch", r.hash(top), "\x12\x35", top)
	r.refuses("16.3: a whole branch is no string of the proof", r.hash(top), "\x12", top, whole)
}

func TestLeavesAndTheRest(t *testing.T) {
	r := newRig(t, 256)
	for _, value := range []string{"v", "\x00", "\x7f", "\x80", long, strings.Repeat("\xee", 256)} {
		l := leaf("123456", value)
		r.proves("16.3: the rest is the path", r.hash(l), "\x12\x34\x56", value, l)
		for _, key := range []string{"", "\x12", "\x12\x34", "\x12\x34\x56\x00", "\x12\x34\x56\x12\x34\x56", "\x02\x34\x56", "\x13\x34\x56", "\x12\x33\x56", "\x12\x34\x46", "\x12\x34\x57"} {
			r.provesNone("16.3: the rest is not the path", r.hash(l), key, l)
		}
		l = leaf("", value)
		r.proves("16.3: a leaf of the empty path", r.hash(l), "", value, l)
		r.provesNone("16.3: a leaf of the empty path", r.hash(l), "\x00", l)
	}
}

func TestBranchesAndTheRest(t *testing.T) {
	r := newRig(t, 256)
	var kids []kid
	for i := range 16 {
		switch i % 3 {
		case 0:
			kids = append(kids, kid{i, leaf("7", fmt.Sprint("w", i))})
		case 1:
			kids = append(kids, kid{i, r.byHash(leaf("7", fmt.Sprint(long, i)))})
		}
	}
	full, bare := branch("full", kids...), branch("", kids...)
	r.proves("16.3: the rest is empty, and it is Full", r.hash(full), "", "full", full)
	r.provesNone("16.3: the rest is empty, and it is not Full", r.hash(bare), "", bare)
	for _, top := range []string{full, bare} {
		root := r.hash(top)
		for i := range 16 {
			key, other := string([]byte{byte(16*i + 7)}), string([]byte{byte(16*i + 6)})
			inner := leaf("7", fmt.Sprint(long, i))
			switch i % 3 {
			case 0:
				r.proves("16.3: a whole kid", root, key, fmt.Sprint("w", i), top)
				r.provesNone("16.3: a whole kid", root, other, top)
				r.refuses("16.3: a whole kid is no string of the proof", root, key, top, leaf("7", fmt.Sprint("w", i)))
			case 1:
				r.proves("16.3: a kid by its hash", root, key, fmt.Sprint(long, i), top, inner)
				r.provesNone("16.3: a kid by its hash", root, other, top, inner)
				r.refuses("16.3: a kid by its hash must be shown", root, key, top)
				r.refuses("16.3: a kid by its hash must be shown", root, other, top)
			default:
				r.provesNone("16.3: no kid", root, key, top)
				r.refuses("16.3: no kid, and a string for it", root, key, top, inner)
			}
		}
	}
}

// With few bits a node can lead to itself: its encoding stands in the proof as often as it is read.
func TestNodesThatLeadToThemselves(t *testing.T) {
	for _, bits := range []int{8, 12} {
		r := newRig(t, bits)
		around := ""
		for i := 0; ; i++ {
			h := api.Hash{byte(i), byte(i>>8) << 4}
			self := item(string(h[:]))
			around = branch("", kid{1, self}, kid{2, self}, kid{3, leaf(strings.Repeat("4", 20), fmt.Sprint(i))})
			if hashOf(bits, around) == h {
				break
			}
		}
		for n := range 33 {
			for strs := max(0, 2*n-1); strs <= 2*n+3; strs++ {
				got := r.ask("16.3", r.hash(around), strings.Repeat("\x12", n), listOf(many(strs, around)...))
				if strs == 2*n+1 && got != (verdict{}) || strs != 2*n+1 && got != proofless {
					t.Errorf("16.3: a key of %d bytes with %d strings: %v", n, strs, got)
				}
			}
		}
	}
}

// stairs is a map whose trie has 65 nodes on the way of one key, each of them as long as it can be.
func stairs() (entries map[string]string, key string) {
	most := strings.Repeat("\xee", api.MaxValue)
	entries = map[string]string{}
	for i := range 64 {
		for _, digit := range "0123456789abcdef" {
			digits := deep[:i] + string(digit)
			if len(digits)%2 == 1 {
				digits += "7"
			}
			if !strings.HasPrefix(deep, digits[:i+1]) {
				entries[unhex(digits)] = most
			}
		}
		if i%2 == 0 {
			entries[unhex(deep[:i])] = most
		}
	}
	entries[unhex(deep[:64])] = most
	return entries, unhex(deep[:64])
}

func TestLongestProof(t *testing.T) {
	r := newRig(t, 256)
	entries, key := stairs()
	m := plant(256, entries)
	l := m.trail(key)
	if len(l) != 65 {
		t.Fatalf("a proof of %d strings, where 65 nodes are to be read", len(l))
	}
	for n := range 33 {
		for _, strs := range []int{0, 1, 2 * n, 2*n + 1, min(2*n+2, 65), 65} {
			got := r.ask("16.3", m.root, key[:n], listOf(l[:strs]...))
			if strs == 2*n+1 && got != m.has(key[:n]) || strs != 2*n+1 && got != proofless {
				t.Errorf("16.3: a key of %d bytes with %d strings: %v", n, strs, got)
			}
		}
	}
	r.refuses("16.3: one string more", m.root, key, append(slices.Clone(l), l[64])...)
}

// many tells a list of so many of one string.
func many(n int, s string) []string { return slices.Repeat([]string{s}, n) }

// leafWithHash tells a leaf of more than 31 bytes that has this hash.
func leafWithHash(bits int, path string, h api.Hash) string {
	for i := 0; ; i++ {
		if l := leaf(path, fmt.Sprintf("%s, number %010d", long, i)); hashOf(bits, l) == h {
			return l
		}
	}
}

// valueIn tells the value of such a leaf.
func valueIn(encoding string) string { return encoding[strings.Index(encoding, long):] }
