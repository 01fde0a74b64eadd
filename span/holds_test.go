package span_test

import (
	"fmt"
	"maps"
	"math/rand"
	"slices"
	"strings"
	"testing"

	"cairn/api"
	"cairn/cursor"
	"cairn/grow"
	"cairn/proof"
	"cairn/shape"
	"cairn/span"
)

// What Prove answers is accepted, and tells what a scan tells and the map has.
func TestWhatProveAnswers(t *testing.T) {
	rnd := rand.New(rand.NewSource(17))
	longest, all, some, none := 0, 0, 0, 0
	for round := range rounds(120) {
		r := newRig(t, []int{256, 255, 64, 40}[round%4])
		m := r.plant(someMap(rnd))
		for i := range 20 {
			b := someBounds(rnd, m.entries)
			if i == 0 {
				b = from("")
			}
			got, v := r.both("17.4", m.root, b)
			if got.e != api.OK || got.proof != m.proof(b) || !v.is(m.has(b)) {
				t.Fatalf("17.4: %v: %d, %v, not %v", b, got.e, v, m.has(b))
			}
			longest = max(longest, len(got.asked))
			switch len(v.entries) {
			case 0:
				none++
			case len(m.entries):
				all++
			default:
				some++
			}
		}
		if !r.book.Sound() {
			t.Fatalf("the book of %d bits is not sound", r.bits)
		}
	}
	if few := rounds(200); longest < 25 || all < few || some < few || none < few {
		t.Errorf("these ranges are not of many kinds: %d whole maps, %d parts, %d without an entry, at most %d nodes", all, some, none, longest)
	}
}

// The ranges of tries that other layers have made, with another book than theirs.
func TestTriesOfOtherLayers(t *testing.T) {
	for _, bits := range []int{40, 256} {
		r, book := newRig(t, bits), newBook(t, bits)
		stage, _ := grow.New(newShelf(), book)
		root := emptyRoot(bits)
		var listed []api.Entry
		for key, value := range grove() {
			root, _ = stage.Put(root, []byte(key), []byte(value))
			listed = append(listed, api.Entry{Key: []byte(key), Value: []byte(value)})
		}
		if other, e := shape.Root(book, shape.Sort(listed)); other != root || e != api.OK {
			t.Fatalf("the trie's root is %x, %d, not %x", other, e, root)
		}
		m := plant(bits, grove())
		for i, b := range allBounds(slices.Sorted(maps.Keys(grove()))) {
			p, e := span.Prove(stage, book, root, boundsOf(b))
			if got := r.verify("17.4", root, b, string(p)); !got.is(m.has(b)) || e != api.OK {
				t.Errorf("17.4: case %d: %v: %v, %d, not %v", i, b, got, e, m.has(b))
			}
		}
	}
}

// turnings tells bytes in which one thing is turned: each byte to some others, left out, told twice, and cut off at every place.
func turnings(b string, all bool) []string {
	var out []string
	for i := range len(b) {
		for x := 1; x < 256; x++ {
			if all || x&(x-1) == 0 || x == 255 {
				out = append(out, b[:i]+string([]byte{b[i] ^ byte(x)})+b[i+1:])
			}
		}
		out = append(out, b[:i], b[i+1:], b[:i]+b[i+1:], b[:i]+"\x00"+b[i:], b[:i]+b[i:i+1]+b[i:])
	}
	return append(out, b+"\x00", b+"\x80", b+"\xc0", b+b)
}

func TestNothingTurnedIsAccepted(t *testing.T) {
	r := newRig(t, 256)
	m := plant(256, grove())
	small := plant(256, map[string]string{"": "e", "\x12": "a", "\x13": long})
	for _, c := range []struct {
		m   *trie
		b   bounds
		all bool
	}{
		{small, from(""), true}, {small, within("\x12", "\x13"), true}, {small, from("\x13"), true}, {small, within("", "\x00"), true}, {plant(256, map[string]string{"k": "v"}), from(""), true}, {plant(256, nil), from(""), true}, {small, within("", ""), true}, {plant(256, three()), within("k", "l"), true},
		{m, from(""), false}, {m, within("\x12", "\x78"), false}, {m, from("\x77"), false}, {m, within(unhex(deep[:62]), "\x02"), false},
	} {
		b := c.m.proof(c.b)
		if got := r.verify("17.5", c.m.root, c.b, b); !got.is(c.m.has(c.b)) {
			t.Fatalf("17.5: %v: %v", c.b, got)
		}
		for _, s := range turnings(b, c.all) {
			if got := r.callVerify(c.m.root, c.b, s); !got.is(proofless) {
				t.Errorf("17.5: %v: %.80x is accepted as %v, where the proof is %.80x", c.b, s, got, b)
			}
		}
	}
	if !r.book.Sound() {
		t.Errorf("the book is not sound")
	}
}

// Of all lists of a trie's strings, and of some beside them, just one is accepted for each pair of bounds.
func TestOneProofAlone(t *testing.T) {
	r := newRig(t, 256)
	m := plant(256, map[string]string{"\x12": long, "\x12\x34": "b", "\x13": long, "\x77": long + "7"})
	pool := []string{"\x80", leaf("12", long)}
	for _, s := range m.spots {
		if !slices.Contains(pool, s.encoding) {
			pool = append(pool, s.encoding)
		}
	}
	if len(m.spots) != 5 || len(m.shown(from(""))) != 5 {
		t.Fatalf("the trie has %d nodes by their hashes", len(m.spots))
	}
	for i, b := range []bounds{from(""), within("", "\x12"), within("\x12", "\x13"), from("\x13"), from("\x20"), within("\x12", "\x12"), within("", "")} {
		accepted := 0
		var all func(l []string)
		all = func(l []string) {
			if got := r.callVerify(m.root, b, listOf(l...)); !got.is(proofless) {
				accepted++
				if !got.is(m.has(b)) || !slices.Equal(l, m.shown(b)) {
					t.Errorf("17.5: %v: %v by %.20x", b, got, l)
				}
			}
			if len(l) < 4 || len(l) < 5 && i == 0 {
				for _, s := range pool {
					all(append(slices.Clone(l), s))
				}
			}
		}
		all(nil)
		if accepted != 1 {
			t.Errorf("17.5: of %v %d proofs are accepted", b, accepted)
		}
	}
}

// begins tells whether one list begins another.
func begins(a, b []string) bool { return len(a) <= len(b) && slices.Equal(b[:len(a)], a) }

// A proof is accepted within all bounds that need the same nodes, and tells what the map has there; within no others.
func TestOtherBounds(t *testing.T) {
	rnd := rand.New(rand.NewSource(174))
	same, more, fewer, apart := 0, 0, 0, 0
	for range rounds(40) {
		r := newRig(t, 256)
		m := plant(256, someMap(rnd))
		for range 80 {
			a, b := someBounds(rnd, m.entries), someBounds(rnd, m.entries)
			switch rnd.Intn(4) {
			case 0:
				b.from = a.from
			case 1:
				b.to, b.open = a.to, a.open
			case 2:
				b = a
				b.from = b.from[:rnd.Intn(len(b.from)+1)]
			}
			one, other := m.shown(a), m.shown(b)
			got := r.verify("17.4", m.root, b, listOf(one...))
			switch {
			case slices.Equal(one, other):
				same++
				if !got.is(m.has(b)) {
					t.Fatalf("17.4: the proof of %v tells %v within %v", a, got, b)
				}
				continue
			case begins(one, other):
				more++
			case begins(other, one):
				fewer++
			default:
				apart++
			}
			if !got.is(proofless) {
				t.Fatalf("17.4: the proof of %v, %d strings, tells %v within %v, which needs %d", a, len(one), got, b, len(other))
			}
		}
	}
	if few := rounds(100); same < few || more < few || fewer < few || apart < few {
		t.Errorf("%d bounds need the same nodes, %d more, %d fewer, %d others: too few to tell", same, more, fewer, apart)
	}
}

// parts proves the parts of bounds that are parted at keys, and tells their entries one behind the other.
func (r *rig) parts(root api.Hash, b bounds, at ...string) []pair {
	r.t.Helper()
	var out []pair
	for i := range len(at) + 1 {
		part := b
		if i > 0 {
			part.from = at[i-1]
		}
		if i < len(at) {
			part.to, part.open = at[i], false
		}
		m, v := r.both("17.6", root, part)
		if m.e != api.OK {
			r.t.Fatalf("17.6: %v: %d", part, m.e)
		}
		out = append(out, v.entries...)
	}
	return out
}

// Bounds that are parted at a key, or at several, prove together what the whole proves.
func TestPartedBounds(t *testing.T) {
	rnd := rand.New(rand.NewSource(176))
	there, not := 0, 0
	for range rounds(60) {
		r := newRig(t, 256)
		m := r.plant(someMap(rnd))
		for range 12 {
			b := someBounds(rnd, m.entries)
			var at []string
			for range 1 + rnd.Intn(3) {
				k := near(rnd, m.entries)
				if b.from <= k && (b.open || k <= b.to) {
					at = append(at, k)
				}
			}
			slices.Sort(at)
			for _, k := range at {
				if _, is := m.entries[k]; is {
					there++
				} else {
					not++
				}
			}
			_, v := r.both("17.6", m.root, b)
			if got := r.parts(m.root, b, at...); !slices.Equal(got, v.entries) || !v.is(m.has(b)) {
				t.Fatalf("17.6: %v, parted at %x: %d entries, not %d", b, at, len(got), len(v.entries))
			}
		}
	}
	if few := rounds(150); there < few || not < few {
		t.Errorf("parted at %d keys that are there and %d that are not: too few to tell", there, not)
	}
}

// All keys around the entries of some tries, as the place to part at.
func TestPartedEverywhere(t *testing.T) {
	for i, keys := range mapsForBounds() {
		r := newRig(t, 256)
		entries := map[string]string{}
		for k, key := range keys {
			entries[key] = []string{"v", long}[(i+k)%2]
		}
		m := r.plant(entries)
		ends := keysAround(keys)
		for _, k := range ends {
			for _, b := range []bounds{from(""), from(ends[len(ends)/3]), within("", ends[len(ends)-2]), within(ends[2], k), within(k, ends[len(ends)-1])} {
				if k < b.from || !b.open && k > b.to {
					continue
				}
				if got := r.parts(m.root, b, k); !slices.Equal(got, m.has(b).entries) {
					t.Errorf("17.6: %v, parted at %x: %v", b, k, verdict{entries: got})
				}
			}
		}
	}
}

// clashing tells the first place at which a proof's strings are not those of the map, if those two have one hash.
// Where a list is empty, the byte 80 stands for it.
func clashing(bits int, mine, shown []string) (string, string, bool) {
	if len(mine) == 0 {
		mine = []string{"\x80"}
	}
	if len(shown) == 0 {
		shown = []string{"\x80"}
	}
	for i := range min(len(mine), len(shown)) {
		if mine[i] != shown[i] {
			return mine[i], shown[i], hashOf(bits, mine[i]) == hashOf(bits, shown[i])
		}
	}
	return "", "", false
}

// forgeries tells lists in which one node of a map has been replaced by another one of its hash, which says something else, and what stands below
// it has been left out, or not.
func forgeries(rnd *rand.Rand, m *trie, b bounds) [][]string {
	var spots []spot
	for _, s := range m.spots {
		if b.leads(s.place) {
			spots = append(spots, s)
		}
	}
	var out [][]string
	for at, s := range spots {
		h := hashOf(m.bits, s.encoding)
		low := fmt.Sprintf("%x", b.from)
		paths := []string{"", "7", "70", fmt.Sprintf("%x", rnd.Intn(256)), fmt.Sprintf("%x", 4096+rnd.Intn(4096))}
		if strings.HasPrefix(low, s.place) {
			paths = append(paths, low[len(s.place):])
		}
		for _, path := range paths {
			other := leafWithHash(m.bits, path, h)
			cut, all := []string{}, []string{}
			for i, x := range spots {
				switch {
				case i == at:
					cut, all = append(cut, other), append(all, other)
				case strings.HasPrefix(x.place, s.place) && i > at:
					all = append(all, x.encoding)
				default:
					cut, all = append(cut, x.encoding), append(all, x.encoding)
				}
			}
			out = append(out, cut, all)
		}
	}
	return append(out, nil, []string{leafWithHash(m.bits, "77", m.root)})
}

// W4: whatever is accepted and says something else than the map has, shows two strings with one hash, which the book has met.
func TestWrongProofsThatAreAccepted(t *testing.T) {
	rnd := rand.New(rand.NewSource(177))
	wrong, refused := 0, 0
	for range rounds(10) {
		const bits = 8
		m := plant(bits, someMap(rnd))
		for range 4 {
			b := someBounds(rnd, m.entries)
			mine := m.shown(b)
			for _, shown := range forgeries(rnd, m, b) {
				r := newRig(t, bits)
				got := r.verify("17.7", m.root, b, listOf(shown...))
				if got.is(proofless) || got.is(m.has(b)) {
					refused++
					continue
				}
				wrong++
				x, y, one := clashing(bits, mine, shown)
				if !one || x == y {
					t.Fatalf("17.7: %v: %.40x is accepted as %v, where the map has %v", b, shown, got, m.has(b))
				}
				r.book.Hash([]byte(x))
				if pairs := r.book.Clashes(); !slices.ContainsFunc(pairs, func(p api.Pair) bool { return string(p.A) == x || string(p.B) == x }) {
					t.Fatalf("R7: the book does not know of the clash of %x and %x", x, y)
				}
			}
		}
	}
	if few := rounds(100); wrong < few || refused < few {
		t.Errorf("only %d wrong proofs are accepted, %d are not", wrong, refused)
	}
}

// A map whose root node has the empty trie's hash: then no strings prove that there is nothing.
func TestRootsWithTheEmptyTriesHash(t *testing.T) {
	r := newRig(t, 8)
	top := leafWithHash(8, "6b", emptyRoot(8))
	m := r.plant(map[string]string{"k": top[strings.Index(top, long):]})
	if m.root != emptyRoot(8) || m.spots[0].encoding != top {
		t.Fatalf("the map's root is %x", m.root)
	}
	r.tells("17.7: c0", m.root, from(""), 0)
	r.refuses("17.3: the map's own node", m.root, from(""), top)
	if x, y, one := clashing(8, []string{top}, nil); !one || x != top || y != "\x80" {
		t.Errorf("17.7: %x and %x", x, y)
	}
}

// someNode tells a node that may be, but need not stand in the trie of any map, over others of a pool.
func someNode(rnd *rand.Rand, bits int, pool []string) string {
	refOf := func() string {
		b := pool[rnd.Intn(len(pool))]
		if len(b) >= 32 || rnd.Intn(12) == 0 {
			return refTo(bits, b)
		}
		return b
	}
	path := ""
	for range rnd.Intn(4) {
		path += fmt.Sprint(rnd.Intn(2))
	}
	if rnd.Intn(12) == 0 {
		path += strings.Repeat("0", rnd.Intn(64-len(path)))
	}
	switch rnd.Intn(5) {
	case 0:
		return leaf(path, someValue(rnd))
	case 1:
		next := pool[rnd.Intn(len(pool))]
		if len(next) < 32 && len(next) > 17 { // a branch has seventeen items
			return ext(path+"0", next)
		}
		return ext(path+"1", refTo(bits, next))
	}
	value := ""
	if rnd.Intn(3) == 0 {
		value = someValue(rnd)
	}
	kids := []kid{{0, refOf()}, {1, refOf()}}
	if rnd.Intn(4) == 0 {
		kids = append(kids, kid{rnd.Intn(16), sibling(rnd.Intn(2))})
	}
	return branch(value, kids...)
}

// spoilt tells a list that is changed at random, or not.
func spoilt(rnd *rand.Rand, bits int, l, pool []string) []string {
	l = slices.Clone(l)
	if len(l) == 0 {
		return l
	}
	at, other := rnd.Intn(len(l)), pool[rnd.Intn(len(pool))]
	switch rnd.Intn(10) {
	case 0:
		return without(l, at)
	case 1:
		return with(l, at, other)
	case 2:
		return append(l, other)
	case 3:
		return instead(l, at, other)
	case 4:
		for _, s := range pool { // one of its hash, if there is one
			if s != l[at] && hashOf(bits, s) == hashOf(bits, l[at]) {
				return instead(l, at, s)
			}
		}
	}
	return l
}

// littleKey tells a key over which the nodes of someNode say something.
func littleKey(rnd *rand.Rand) string {
	b := make([]byte, rnd.Intn(6))
	for i := range b {
		b[i] = []byte{0x00, 0x01, 0x10, 0x11}[rnd.Intn(4)]
	}
	return string(b)
}

// Over any source at all, with books of few bits and of many: what it tells within bounds, as a proof, changed or not.
func TestAnySource(t *testing.T) {
	rnd := rand.New(rand.NewSource(178))
	seen := map[api.Errno]int{}
	told, none, refused, longest := 0, 0, 0, 0
	for round := range rounds(300) {
		r := newRig(t, []int{8, 9, 12, 256}[round%4])
		pool := []string{leaf("", "v"), leaf("0", "w"), leaf("01", "x"), leaf("1", long), branch("", kid{0, sibling(0)}, kid{1, sibling(0)})}
		for range 40 {
			pool = append(pool, someNode(rnd, r.bits, pool[max(0, len(pool)-12):]))
		}
		for _, b := range pool {
			if rnd.Intn(40) > 0 {
				r.lay(b)
			}
		}
		for range 20 {
			root := r.hash(pool[rnd.Intn(len(pool))])
			b := within(littleKey(rnd), littleKey(rnd))
			if rnd.Intn(3) == 0 {
				b = from(littleKey(rnd))
			}
			m, _ := r.both("17.2", root, b)
			seen[m.e]++
			r.src.asked = m.asked
			l := spoilt(rnd, r.bits, r.src.told(), pool)
			switch v := r.verify("17.3", root, b, listOf(l...)); {
			case v.e != api.OK:
				refused++
			case len(v.entries) == 0:
				none++
			default:
				told++
				longest = max(longest, len(l))
			}
		}
	}
	few := rounds(600)
	for _, e := range []api.Errno{api.OK, api.ErrNode, api.ErrAbsent} {
		if seen[e] < few/4 {
			t.Errorf("%d calls answered %d: too few to tell", seen[e], e)
		}
	}
	if told < few/4 || none < few/2 || refused < few || longest < 3 {
		t.Errorf("these strings are not of many kinds: %d with entries, %d without, %d refused, at most %d strings", told, none, refused, longest)
	}
}

// Random bytes prove nothing; nor do those that have a proof's form.
func TestRandomBytes(t *testing.T) {
	rnd := rand.New(rand.NewSource(179))
	r := newRig(t, 256)
	m := plant(256, grove())
	for range rounds(20000) {
		b := someString(rnd, rnd.Intn(60))
		switch rnd.Intn(3) {
		case 0:
			b = list(b)
		case 1:
			b = listOf(b, someString(rnd, 1+rnd.Intn(60)))
		}
		in := someBounds(rnd, grove())
		if !in.open && in.to == "" {
			continue
		}
		if got := r.callVerify(m.root, in, b); !got.is(proofless) {
			t.Fatalf("17.5: %x: %v", b, got)
		}
	}
}

// The proof of a range of one key shows what the proof of that key shows, and what the range needs beside it.
func TestRangesOfOneKey(t *testing.T) {
	rnd := rand.New(rand.NewSource(180))
	for range rounds(40) {
		r := newRig(t, 256)
		m := r.plant(someMap(rnd))
		for _, key := range slices.Sorted(maps.Keys(m.entries)) {
			if len(key) == 32 {
				continue
			}
			got, v := r.both("17.4", m.root, within(key, key+"\x00"))
			if len(v.entries) != 1 || v.entries[0] != (pair{key, m.entries[key]}) {
				t.Fatalf("17.4: %x alone: %v", key, v)
			}
			single, _ := proof.Prove(r.src, r.book, m.root, []byte(key))
			way, _ := proof.Unpack(single)
			shown, _ := proof.Unpack([]byte(got.proof))
			for _, s := range way {
				if !slices.ContainsFunc(shown, func(x []byte) bool { return string(x) == string(s) }) {
					t.Fatalf("17.2: %x: a node on the key's way is not shown", key)
				}
			}
		}
	}
}

// A scan with any limit tells a beginning of what a proof of the same range tells.
func TestScansWithLimits(t *testing.T) {
	rnd := rand.New(rand.NewSource(181))
	for range rounds(40) {
		r := newRig(t, 256)
		m := r.plant(someMap(rnd))
		for range 10 {
			b := someBounds(rnd, m.entries)
			_, v := r.both("17.4", m.root, b)
			limit := rnd.Intn(len(v.entries) + 2)
			l, more, e := cursor.Scan(r.src, r.book, m.root, boundsOf(b), limit)
			if want := v.entries[:min(limit, len(v.entries))]; !slices.Equal(pairs(l), want) || more != (limit < len(v.entries)) || e != api.OK {
				t.Fatalf("17.4: %v, limit %d: %d entries, %v, %d", b, limit, len(l), more, e)
			}
		}
	}
}
