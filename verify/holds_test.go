package verify_test

import (
	"fmt"
	"math/rand"
	"slices"
	"strings"
	"testing"

	"cairn/api"
	"cairn/find"
	"cairn/grow"
	"cairn/proof"
	"cairn/shape"
)

// What Prove answers is accepted, and tells what Get tells and the map has.
func TestWhatProveAnswers(t *testing.T) {
	rnd := rand.New(rand.NewSource(16))
	longest, there, none := 0, 0, 0
	for round := range rounds(60) {
		r := newRig(t, []int{256, 255, 64, 40}[round%4])
		m := plant(r.bits, someMap(rnd))
		src := m.shelve()
		for _, key := range around(rnd, m.entries) {
			b, e := proof.Prove(src, r.book, m.root, []byte(key))
			value, found, f := find.Get(src, r.book, m.root, []byte(key))
			if e != api.OK || f != api.OK || string(b) != m.proof(key) {
				t.Fatalf("16.5: Prove and Get of %x: %d, %d", key, e, f)
			}
			got := r.ask("16.5", m.root, key, string(b))
			if got != (verdict{string(value), found, api.OK}) || got != m.has(key) {
				t.Fatalf("16.5: %x: Verify tells %v, Get %.20q, the map %v", key, got, value, m.has(key))
			}
			longest = max(longest, len(m.trail(key)))
			if found {
				there++
			} else {
				none++
			}
		}
		if !r.book.Sound() {
			t.Fatalf("the book of %d bits is not sound", r.bits)
		}
	}
	if few := rounds(600); longest < 4 || there < few || none < few {
		t.Errorf("these tries are not of many kinds: %d keys that are there, %d that are not, a proof of at most %d strings", there, none, longest)
	}
}

// The proofs of tries that other layers have made, with another book than theirs.
func TestProofsOfOtherLayersTries(t *testing.T) {
	for _, bits := range []int{40, 256} {
		r, book := newRig(t, bits), newBook(t, bits)
		stage, _ := grow.New(&shelf{}, book)
		root := emptyRoot(bits)
		var listed []api.Entry
		for key, value := range grove() {
			root, _ = stage.Put(root, []byte(key), []byte(value))
			listed = append(listed, api.Entry{Key: []byte(key), Value: []byte(value)})
		}
		if other, e := shape.Root(book, shape.Sort(listed)); other != root || e != api.OK {
			t.Fatalf("the trie's root is %x, %d, not %x", other, e, root)
		}
		m := plant(bits, grove())
		for _, key := range nearAll(grove()) {
			b, e := proof.Prove(stage, book, root, []byte(key))
			if got := r.ask("16.5", root, key, string(b)); got != m.has(key) || e != api.OK {
				t.Errorf("16.5: %x: %v, %d, not %v", key, got, e, m.has(key))
			}
		}
	}
}

// turnings tells bytes in which one thing is turned: each byte to some others, left out, told twice, and cut off at every place.
func turnings(b string, all bool) []string {
	var out []string
	for i := range len(b) {
		for x := 1; x < 256; x++ {
			if all || x&(x-1) == 0 || x == 255 {
				out = append(out, b[:i]+string([]byte{b[i] ^ byte(x)})+b[i+1:])
			}
		}
		out = append(out, b[:i], b[i+1:], b[:i]+b[i+1:], b[:i]+"\x00"+b[i:], b[:i]+b[i:i+1]+b[i:])
	}
	return append(out, b+"\x00", b+"\x80", b+"\xc0", b+b)
}

func TestNothingTurnedIsAccepted(t *testing.T) {
	r := newRig(t, 256)
	m := plant(256, grove())
	small := plant(256, map[string]string{"": "e", "\x12": "a", "\x13": long})
	for _, c := range []struct {
		m   *trie
		key string
		all bool
	}{
		{small, "", true}, {small, "\x12", true}, {small, "\x13", true}, {small, "\x99", true}, {small, "\x13\x00", true}, {plant(256, map[string]string{"k": "v"}), "k", true}, {plant(256, nil), "k", true},
		{m, "", false}, {m, "\x12", false}, {m, "\x12\x34", false}, {m, "\x12\x35\x67", false}, {m, "\x77", false}, {m, "\x99", false}, {m, unhex(deep[:64]), false}, {m, unhex(deep[:62]), false}, {m, unhex(deep[:60]), false},
	} {
		b := c.m.proof(c.key)
		if got := r.ask("16.5", c.m.root, c.key, b); got != c.m.has(c.key) {
			t.Fatalf("16.5: %x: %v", c.key, got)
		}
		for _, s := range turnings(b, c.all) {
			if got := r.verify(c.m.root, c.key, s); got != proofless {
				t.Errorf("16.6: %x: %.80x is accepted as %v, where the proof is %.80x", c.key, s, got, b)
			}
		}
	}
	if !r.book.Sound() {
		t.Errorf("the book is not sound")
	}
}

// Of all lists of a trie's strings, and of some beside them, just one is accepted for each key.
func TestOneProofAlone(t *testing.T) {
	r := newRig(t, 256)
	m := plant(256, map[string]string{"": "e", "\x12": long, "\x12\x34": long + "2", "\x13": "c", "\x77": "seven"})
	pool := []string{"\x80", leaf("12", long), leaf("4", long+"3")}
	for _, s := range m.spots {
		pool = append(pool, s.encoding)
	}
	if len(m.spots) < 4 {
		t.Fatalf("the trie has %d nodes by their hashes", len(m.spots))
	}
	for _, key := range []string{"", "\x12", "\x12\x34", "\x12\x35", "\x13", "\x14", "\x77", "\x99", "\x12\x34\x00"} {
		accepted := 0
		var all func(l []string)
		all = func(l []string) {
			if got := r.verify(m.root, key, listOf(l...)); got != proofless {
				accepted++
				if got != m.has(key) || !slices.Equal(l, m.trail(key)) {
					t.Errorf("16.6: %x: %v by %.20x", key, got, l)
				}
			}
			if len(l) < 4 {
				for _, s := range pool {
					all(append(slices.Clone(l), s))
				}
			}
		}
		all(nil)
		if accepted != 1 {
			t.Errorf("16.6: of %x %d proofs are accepted", key, accepted)
		}
	}
}

// A proof proves the same of each key whose way goes through the same nodes, and nothing of any other.
func TestOtherKeys(t *testing.T) {
	rnd := rand.New(rand.NewSource(17))
	same, more, fewer, apart := 0, 0, 0, 0
	for range rounds(40) {
		r := newRig(t, 256)
		m := plant(256, someMap(rnd))
		keys := around(rnd, m.entries)
		for range 80 {
			a, b := keys[rnd.Intn(len(keys))], keys[rnd.Intn(len(keys))]
			if rnd.Intn(3) == 0 {
				b = a[:rnd.Intn(len(a)+1)]
			}
			one, other := m.trail(a), m.trail(b)
			got := r.ask("16.7", m.root, b, listOf(one...))
			switch {
			case slices.Equal(one, other):
				same++
				if got != m.has(b) {
					t.Fatalf("16.7: the proof of %x tells %v of %x", a, got, b)
				}
				continue
			case len(other) > len(one) && slices.Equal(other[:len(one)], one):
				more++
			case len(other) < len(one) && slices.Equal(one[:len(other)], other):
				fewer++
			default:
				apart++
			}
			if got != proofless {
				t.Fatalf("16.7: the proof of %x, %d strings, tells %v of %x, which needs %d", a, len(one), got, b, len(other))
			}
		}
	}
	if few := rounds(150); same < few || more < few || fewer < few || apart < few {
		t.Errorf("these keys are not of many kinds: %d go the same way, %d further, %d less far, %d elsewhere", same, more, fewer, apart)
	}
}

// Two keys that end in one leaf, one extension, one branch: what each of them is told.
func TestKeysThatEndAtOneNode(t *testing.T) {
	r := newRig(t, 256)
	end := branch("at", kid{1, leaf("1", "in it")}, kid{2, leaf("2", long)})
	under := leaf("45", long)
	top := branch("", kid{1, r.byHash(ext("23", r.byHash(end)))}, kid{3, r.byHash(under)})
	over := ext("23", r.byHash(end))
	root := r.hash(top)
	for _, key := range []string{"\x10", "\x12", "\x13\x45", "\x1f"} {
		r.provesNone("16.7: keys that part from one extension", root, key, top, over)
		r.refuses("16.7: a node less", root, key, top)
		r.refuses("16.7: a node more", root, key, top, over, end)
		r.refuses("16.7: another node", root, key, top, under)
	}
	for _, key := range []string{"\x30", "\x34", "\x34\x50", "\x34\x55\x00", "\x3f"} {
		r.ask("16.7: keys that part from one leaf", root, key, listOf(top, under))
	}
	for _, key := range []string{"", "\x00", "\x20", "\x44\x55"} {
		r.provesNone("16.7: keys that part from the root", root, key, top)
		r.refuses("16.7: a node more", root, key, top, over)
		r.refuses("16.7: a node more", root, key, top, under)
	}
}

// clashing tells the first place at which a proof's strings are not those of the map, if those two have one hash.
// Where a list is empty, the byte 80 stands for it.
func clashing(bits int, mine, shown []string) (string, string, bool) {
	if len(mine) == 0 {
		mine = []string{"\x80"}
	}
	if len(shown) == 0 {
		shown = []string{"\x80"}
	}
	for i := range min(len(mine), len(shown)) {
		if mine[i] != shown[i] {
			return mine[i], shown[i], hashOf(bits, mine[i]) == hashOf(bits, shown[i])
		}
	}
	return "", "", false
}

// forgeries tells lists in which one string has been replaced by another one of its hash, which says something else.
func forgeries(rnd *rand.Rand, bits int, l []string, key string) [][]string {
	var out [][]string
	digits := fmt.Sprintf("%x", key)
	for at, s := range l {
		h := hashOf(bits, s)
		for d := range len(digits) + 1 { // which of these may stand there, the trie says
			out = append(out, append(slices.Clone(l[:at]), leafWithHash(bits, digits[d:], h)))
			if d > 0 {
				out = append(out, append(slices.Clone(l[:at]), leafWithHash(bits, digits[d:]+"7", h)))
			}
		}
		out = append(out, append(slices.Clone(l[:at]), leafWithHash(bits, fmt.Sprintf("%x", rnd.Intn(1<<16)), h)))
		out = append(out, instead(l, at, leafWithHash(bits, digits, h)))
	}
	return out
}

// W4: whatever is accepted and says something else than the map has, shows two strings with one hash, which the book has met.
func TestWrongProofsThatAreAccepted(t *testing.T) {
	rnd := rand.New(rand.NewSource(18))
	wrong, refused := 0, 0
	for range rounds(20) {
		const bits = 8
		m := plant(bits, someMap(rnd))
		for _, key := range around(rnd, m.entries)[:min(12, 5+len(m.entries))] {
			if len(key) > 6 {
				continue
			}
			l := m.trail(key)
			lists := append(forgeries(rnd, bits, l, key), nil, []string{leafWithHash(bits, fmt.Sprintf("%x", key), m.root)})
			for _, shown := range lists {
				r := newRig(t, bits)
				got := r.ask("16.8", m.root, key, listOf(shown...))
				if got == proofless || got == m.has(key) {
					refused++
					continue
				}
				wrong++
				a, b, one := clashing(bits, l, shown)
				if !one || a == b {
					t.Fatalf("16.8: %x: %.40x is accepted as %v, where the map has %v by %.40x", key, shown, got, m.has(key), l)
				}
				r.book.Hash([]byte(a))
				if pairs := r.book.Clashes(); !slices.ContainsFunc(pairs, func(p api.Pair) bool { return string(p.A) == a || string(p.B) == a }) {
					t.Fatalf("R7: the book does not know of the clash of %x and %x", a, b)
				}
			}
		}
	}
	if few := rounds(200); wrong < few || refused < few {
		t.Errorf("only %d wrong proofs are accepted, %d are not", wrong, refused)
	}
}

// A map whose root node has the empty trie's hash: then no strings prove that there is nothing.
func TestRootsWithTheEmptyTriesHash(t *testing.T) {
	r := newRig(t, 8)
	top := leafWithHash(8, "6b", emptyRoot(8))
	m := plant(8, map[string]string{"k": valueIn(top)})
	if m.root != emptyRoot(8) || m.spots[0].encoding != top {
		t.Fatalf("the map's root is %x", m.root)
	}
	r.provesNone("16.8: c0", m.root, "k")
	r.refuses("16.2: the map's own node", m.root, "k", top)
	if a, b, one := clashing(8, []string{top}, nil); !one || a != top || b != "\x80" {
		t.Errorf("16.8: %x and %x", a, b)
	}
}

// someNode tells a node that may be, but need not stand in the trie of any map, over others of a pool.
func someNode(rnd *rand.Rand, bits int, pool []string) string {
	refOf := func() string {
		b := pool[rnd.Intn(len(pool))]
		if len(b) >= 32 || rnd.Intn(8) == 0 {
			return refTo(bits, b)
		}
		return b
	}
	path := ""
	for range rnd.Intn(4) {
		path += fmt.Sprint(rnd.Intn(2))
	}
	switch rnd.Intn(5) {
	case 0:
		return leaf(path, someValue(rnd))
	case 1, 2:
		next := pool[rnd.Intn(len(pool))]
		if len(next) < 32 && len(next) > 17 { // a branch has seventeen items
			return ext(path+"0", next)
		}
		return ext(path+"1", refTo(bits, next))
	}
	value := ""
	if rnd.Intn(3) == 0 {
		value = someValue(rnd)
	}
	return branch(value, kid{0, refOf()}, kid{1, refOf()})
}

// spoilt tells a list that is changed at random, or not.
func spoilt(rnd *rand.Rand, bits int, l, pool []string) []string {
	l = slices.Clone(l)
	if len(l) == 0 {
		return l
	}
	at, other := rnd.Intn(len(l)), pool[rnd.Intn(len(pool))]
	switch rnd.Intn(10) {
	case 0:
		return without(l, at)
	case 1:
		return with(l, at, other)
	case 2:
		return append(l, other)
	case 3:
		return instead(l, at, other)
	case 4:
		for _, s := range pool { // one of its hash, if there is one
			if s != l[at] && hashOf(bits, s) == hashOf(bits, l[at]) {
				return instead(l, at, s)
			}
		}
	}
	return l
}

// Over any nodes at all: what a source tells on a key's way, as a proof, changed or not, with books of few bits and of many.
func TestAnyStrings(t *testing.T) {
	rnd := rand.New(rand.NewSource(19))
	found, none, refused, longest := 0, 0, 0, 0
	for round := range rounds(160) {
		r := newRig(t, []int{8, 9, 12, 256}[round%4])
		pool := []string{leaf("", "v"), leaf("0", "w"), leaf("01", "x"), leaf("1", long), branch("", kid{0, sibling}, kid{1, sibling})}
		for range 60 {
			pool = append(pool, someNode(rnd, r.bits, pool[max(0, len(pool)-12):]))
		}
		src := &shelf{blobs: map[api.Hash]string{}}
		for _, b := range pool {
			src.blobs[r.hash(b)] = b
		}
		for range 60 {
			b := make([]byte, rnd.Intn(7))
			for i := range b {
				b[i] = []byte{0x00, 0x01, 0x10, 0x11}[rnd.Intn(4)]
			}
			root := r.hash(pool[rnd.Intn(len(pool))])
			src.told = nil
			find.Get(src, r.book, root, b)
			l := spoilt(rnd, r.bits, src.told, pool)
			switch got := r.ask("16.3", root, string(b), listOf(l...)); {
			case got.found:
				found++
				longest = max(longest, len(l))
			case got.e == api.OK:
				none++
			default:
				refused++
			}
		}
	}
	if few := rounds(1000); found < few/10 || none < few || refused < few || longest < 3 {
		t.Errorf("these strings are not of many kinds: %d values, %d times nothing, %d refused, at most %d strings", found, none, refused, longest)
	}
}

// Random bytes prove nothing; nor do those that have a proof's form.
func TestRandomBytes(t *testing.T) {
	rnd := rand.New(rand.NewSource(20))
	r := newRig(t, 256)
	m := plant(256, grove())
	for range rounds(20000) {
		b := someString(rnd, rnd.Intn(60))
		switch rnd.Intn(3) {
		case 0:
			b = list(b)
		case 1:
			b = listOf(b, someString(rnd, 1+rnd.Intn(60)))
		}
		if got := r.verify(m.root, someKey(rnd, rnd.Intn(4)), b); got != proofless {
			t.Fatalf("16.6: %x: %v", b, got)
		}
	}
	for _, b := range []string{strings.Repeat("\xff", 40), strings.Repeat("\xf8", 40), strings.Repeat("\xb8", 40)} {
		r.refusesBytes("16.1", m.root, "k", b)
	}
}
