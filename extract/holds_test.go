package extract_test

import (
	"fmt"
	"maps"
	"math/rand"
	"slices"
	"strings"
	"testing"

	"cairn/api"
	"cairn/grow"
	"cairn/proof"
	"cairn/shape"
	"cairn/span"
	"cairn/verify"
)

// said is what a proof is taken to say: keys and values, one behind the other; and whether it is accepted.
func (r *rig) said(root api.Hash, at aim, bytes string) ([]string, bool) {
	if !at.ranged {
		value, is, e := verify.Verify(r.book, root, []byte(at.key), []byte(bytes))
		if !is {
			return nil, e == api.OK
		}
		return []string{at.key, string(value)}, e == api.OK
	}
	l, e := span.Verify(r.book, root, api.Bounds{From: []byte(at.b.from), To: []byte(at.b.to), Open: at.b.open}, []byte(bytes))
	var out []string
	for _, x := range l {
		out = append(out, string(x.Key), string(x.Value))
	}
	return out, e == api.OK
}

// truth is what the map has.
func (m *trie) truth(at aim) []string {
	if at.ranged {
		return m.has(at.b)
	}
	if value, is := m.entries[at.key]; is {
		return []string{at.key, value}
	}
	return nil
}

// tally counts what was seen of proofs.
type tally struct{ right, wrong, refused, told int }

// w4 holds a proof against a map: if it is accepted and says something else, a pair is told.
func (r *rig) w4(m *trie, nodes []string, at aim, bytes string, seen *tally) {
	r.t.Helper()
	l, accepted := r.said(m.root, at, bytes)
	got := r.ask("18.3", nodes, m.root, at, bytes)
	switch {
	case !accepted:
		seen.refused++
		if got.e == api.OK {
			seen.told++
		}
	case slices.Equal(l, m.truth(at)):
		seen.right++
	default:
		seen.wrong++
		if got.e != api.OK {
			r.t.Fatalf("18.3: %v: %.80x is accepted, says %.40q, the map has %.40q, and nothing is found: %v", at, bytes, l, m.truth(at), got)
		}
	}
}

// enough looks that what was seen is of all kinds.
func (s tally) enough(t *testing.T, few int) {
	t.Helper()
	if s.right < few || s.wrong < few || s.refused < few || s.told < few {
		t.Errorf("proofs that are accepted and right: %d, accepted and wrong: %d, refused: %d, of which something is told: %d; too few to tell", s.right, s.wrong, s.refused, s.told)
	}
}

// littleMaps are maps of none, of one and of some entries.
func littleMaps() []map[string]string {
	return []map[string]string{
		{},
		{"k": "v"},
		{"": "e"},
		{"\x12": long},
		{"\x12": "a", "\x13": "b"},
		{"\x12": long, "\x13": "b"},
		{"\x12": long, "\x22": long},
		{"": "e", "\x12": long, "\x12\x34": long + "!"},
		{"\x01": long, "\x01\x11": "v", "\x01\x23": long + "?"},
	}
}

// littleAims are aims around them.
func littleAims() []aim {
	var out []aim
	keys := []string{"", "k", "\x12", "\x13", "\x12\x34", "\x01\x23", "\x22", "\x77"}
	for _, k := range keys {
		out = append(out, to(k), over(from(k)), over(within(k, k+"\x00")), over(within("", k)))
	}
	return append(out, over(within("\x01\x11", "\x12\x34")), over(within("\x12", "\x13")))
}

// twinsAt tells other strings of the hash of a node at a place, of which most may stand there.
func twinsAt(bits int, s spot) []string {
	h := hashOf(bits, s.encoding)
	odd := strings.Repeat("2", len(s.place)%2)
	return []string{
		another(bits, h, asLeaf(odd), s.encoding),
		another(bits, h, func(i int) string {
			return branch("", kid{2, sibling(len(s.place) + 1)}, kid{3, sibling2(len(s.place)+1, i)}, kid{4, sibling(len(s.place) + 1)})
		}, s.encoding),
		another(bits, h, asJunk, s.encoding),
	}
}

// All lists of up to three strings out of a map's own, others of their hashes, and the byte: for every little map and aim, by a book of 8 bits.
func TestAllShortProofs(t *testing.T) {
	const bits = 8
	var seen tally
	clashing := 0
	for _, entries := range littleMaps() {
		m := plant(bits, entries)
		nodes := m.nodes()
		if _, clash := (&stone{bits: bits, nodes: nodes}).ownClash(); clash {
			clashing++
		}
		pool := append(slices.Clone(nodes), nothing)
		for i, s := range append(slices.Clone(m.spots), spot{"", nothing}) {
			if i < 2 || s.encoding == nothing {
				pool = append(pool, twinsAt(bits, s)[:2]...)
			}
		}
		var lists []string
		var all func(l []string)
		all = func(l []string) {
			lists = append(lists, listOf(l...))
			if len(l) < 3 && !(testing.Short() && len(l) > 1) {
				for _, s := range pool {
					all(append(slices.Clone(l), s))
				}
			}
		}
		all(nil)
		for i, at := range littleAims() {
			r := newRig(t, bits)
			for k, bytes := range lists {
				if len(lists) < 200 || (i+k)%3 == 0 {
					r.w4(m, nodes, at, bytes, &seen)
				}
			}
		}
	}
	seen.enough(t, 60)
	if clashing > 0 {
		t.Errorf("%d of the little maps clash by themselves: they tell nothing of proofs", clashing)
	}
}

// forgeries tells lists in which one node of a map has been replaced by another one of its hash, which says something else, and what stands
// below it has been left out, or not; and some in which the other one leads on to nodes of its own.
func forgeries(rnd *rand.Rand, m *trie, at aim) [][]string {
	leads := at.b.leads
	low := fmt.Sprintf("%x", at.b.from)
	if !at.ranged {
		low = fmt.Sprintf("%x", at.key)
		leads = func(place string) bool { return strings.HasPrefix(low, place) }
	}
	var spots []spot
	for _, s := range m.spots {
		if leads(s.place) {
			spots = append(spots, s)
		}
	}
	var out [][]string
	for at, s := range spots {
		h := hashOf(m.bits, s.encoding)
		paths := []string{"", "7", fmt.Sprintf("%x", rnd.Intn(256))}
		var below []string
		if rest, begins := strings.CutPrefix(low, s.place); begins {
			paths = append(paths, rest)
			if len(rest) > 0 { // a forged branch over a forged leaf on the way
				below = []string{leaf(rest[1:], long+" forged")}
			}
		}
		var others [][]string
		for _, path := range paths {
			others = append(others, []string{another(m.bits, h, asLeaf(path), s.encoding)})
		}
		if below != nil {
			way := strings.IndexByte("0123456789abcdef", low[len(s.place)])
			others = append(others, append([]string{another(m.bits, h, func(i int) string {
				return branch("", kid{way, refTo(m.bits, below[0])}, kid{(way + 1) % 16, sibling2(len(s.place)+1, i)})
			}, s.encoding)}, below...))
		}
		for _, other := range others {
			cut, all := []string{}, []string{}
			for i, x := range spots {
				switch {
				case i == at:
					cut, all = append(cut, other...), append(all, other...)
				case strings.HasPrefix(x.place, s.place) && i > at:
					all = append(all, x.encoding)
				default:
					cut, all = append(cut, x.encoding), append(all, x.encoding)
				}
			}
			out = append(out, cut, all)
		}
	}
	var right []string
	for _, s := range spots {
		right = append(right, s.encoding)
	}
	return append(out, right, nil, []string{another(m.bits, m.root, asLeaf(low), right...)}, []string{another(m.bits, m.root, asJunk)})
}

// W4: whatever is accepted and says something else than the map has, a pair is told; by books of few bits, over any maps.
func TestWrongProofsThatAreAccepted(t *testing.T) {
	rnd := rand.New(rand.NewSource(183))
	var seen tally
	own, sound := 0, 0
	for round := range rounds(70) {
		bits := []int{8, 9, 10}[round%3]
		m := plant(bits, someMap(rnd, []int{1, 4, 12, 30}[round%4]))
		nodes := m.nodes()
		rnd.Shuffle(len(nodes), func(i, k int) { nodes[i], nodes[k] = nodes[k], nodes[i] })
		if _, clash := (&stone{bits: bits, nodes: nodes}).ownClash(); clash {
			own++
		} else {
			sound++
		}
		for range 4 {
			at := someAim(rnd, m.entries)
			r := newRig(t, bits)
			for _, l := range forgeries(rnd, m, at) {
				r.w4(m, nodes, at, listOf(l...), &seen)
			}
		}
	}
	seen.enough(t, rounds(150))
	if few := rounds(8); own < few || sound < few {
		t.Errorf("%d maps clash by themselves, %d do not: too few to tell", own, sound)
	}
}

// A map whose root node has the empty trie's hash: then no strings prove that there is nothing.
func TestRootsWithTheEmptyTriesHash(t *testing.T) {
	for _, bits := range []int{8, 12} {
		top := another(bits, emptyRoot(bits), asLeaf("6b"))
		m := plant(bits, map[string]string{"k": top[strings.Index(top, long):]})
		if m.root != emptyRoot(bits) || m.spots[0].encoding != top {
			t.Fatalf("the map's root is %x", m.root)
		}
		var seen tally
		for _, at := range littleAims() {
			r := newRig(t, bits)
			for _, l := range [][]string{nil, {top}, {nothing}} {
				r.w4(m, []string{top}, at, listOf(l...), &seen)
				r.finds("18.3", []string{top}, m.root, at, top, nothing, l...)
			}
		}
		if seen.wrong < 3 {
			t.Errorf("only %d proofs are accepted and wrong", seen.wrong)
		}
	}
}

// A proof that is not accepted may show something nonetheless.
func TestToldOfRefusedProofs(t *testing.T) {
	for _, bits := range twinBits {
		root, nodes, all := yardOf(t, bits)
		for _, c := range yardAims() {
			r := newRig(t, bits)
			l := named(nodes, c.needs)
			for at, mine := range l {
				twin := another(bits, hashOf(bits, mine), asJunk, mine)
				shown := append(slices.Clone(l[:at]), twin)
				if _, accepted := r.said(root, c.at, listOf(shown...)); accepted {
					t.Fatalf("18.5: a string that is no node is accepted")
				}
				r.finds("18.5: it is told", all, root, c.at, mine, twin, shown...)
			}
		}
	}
}

// shelf is a source of strings by their hashes.
type shelf map[api.Hash]string

func (s shelf) Node(h api.Hash) ([]byte, api.Errno) {
	b, there := s[h]
	if !there {
		return nil, api.ErrAbsent
	}
	return []byte(b), api.OK
}

// shelve tells a source of strings, of each hash the first.
func shelve(bits int, l []string) shelf {
	s := shelf{}
	for _, b := range l {
		if _, there := s[hashOf(bits, b)]; !there {
			s[hashOf(bits, b)] = b
		}
	}
	return s
}

// prove tells what the layers below make of a source.
func (r *rig) prove(src api.Source, root api.Hash, at aim) (string, api.Errno) {
	if at.ranged {
		p, e := span.Prove(src, r.book, root, api.Bounds{From: []byte(at.b.from), To: []byte(at.b.to), Open: at.b.open})
		return string(p), e
	}
	p, e := proof.Prove(src, r.book, root, []byte(at.key))
	return string(p), e
}

// Of what Prove answers over a sound book there is nothing to be found.
func TestWhatProveAnswers(t *testing.T) {
	rnd := rand.New(rand.NewSource(185))
	few, some, longest := 0, 0, 0
	for round := range rounds(300) {
		bits := []int{256, 255, 64, 40, 16, 12}[round%6]
		r := newRig(t, bits)
		m := plant(bits, someMap(rnd, 30))
		nodes := m.nodes()
		if _, clash := (&stone{bits: bits, nodes: nodes}).ownClash(); clash {
			continue
		}
		rnd.Shuffle(len(nodes), func(i, k int) { nodes[i], nodes[k] = nodes[k], nodes[i] })
		for range 12 {
			at := someAim(rnd, m.entries)
			b, e := r.prove(shelve(bits, nodes), m.root, at)
			if l, accepted := r.said(m.root, at, b); e != api.OK || b != listOf(m.needs(at)...) || !accepted || !slices.Equal(l, m.truth(at)) {
				t.Fatalf("what Prove answers is %.80x, %d, accepted: %v", b, e, accepted)
			}
			r.findsNoneIn("18.5", nodes, m.root, at, b)
			longest = max(longest, len(m.needs(at)))
			if len(m.needs(at)) < 3 {
				few++
			} else {
				some++
			}
		}
		if !r.book.Sound() {
			t.Fatalf("the book of %d bits is not sound", bits)
		}
	}
	if least := rounds(500); few < least || some < least || longest < 20 {
		t.Errorf("%d short proofs, %d others, the longest of %d strings: too few to tell", few, some, longest)
	}
}

// The nodes of tries that other layers have made.
func TestTriesOfOtherLayers(t *testing.T) {
	for _, bits := range []int{12, 40, 256} {
		r, book := newRig(t, bits), newBook(t, bits)
		stage, _ := grow.New(shelf{}, book)
		root := emptyRoot(bits)
		var listed []api.Entry
		for _, key := range slices.Sorted(maps.Keys(grove())) {
			root, _ = stage.Put(root, []byte(key), []byte(grove()[key]))
			listed = append(listed, api.Entry{Key: []byte(key), Value: []byte(grove()[key])})
		}
		blobs, e := shape.Nodes(book, listed)
		var nodes []string
		for _, b := range blobs {
			nodes = append(nodes, string(b.Data))
		}
		m := plant(bits, grove())
		if root != m.root || e != api.OK || !slices.Equal(slices.Sorted(slices.Values(nodes)), slices.Sorted(slices.Values(m.nodes()))) {
			t.Fatalf("the trie has the root %x, %d, and %d nodes", root, e, len(nodes))
		}
		var aims []aim
		for _, low := range slices.Sorted(maps.Keys(grove())) {
			aims = append(aims, to(low), over(from(low)))
			for _, high := range slices.Sorted(maps.Keys(grove())) {
				aims = append(aims, over(within(low, high)))
			}
		}
		for _, at := range aims {
			b, e := r.prove(stage, root, at)
			if e != api.OK {
				t.Fatalf("%v: %d", at, e)
			}
			r.findsNoneIn("18.5", nodes, root, at, b)
			if l := m.needs(at); bits == 12 && len(l) > 0 {
				last := len(l) - 1
				twin := another(bits, hashOf(bits, l[last]), asLeaf("12"), l[last])
				r.finds("18.3", nodes, root, at, l[last], twin, instead(l, last, twin)...)
			}
		}
	}
}

// Books of other bits: what is a pair by one is none by another.
func TestBooksOfOtherBits(t *testing.T) {
	twin := another(12, hashOf(12, kLeaf), asShort("6b"), kLeaf)
	for _, bits := range []int{8, 9, 11, 12, 13, 16, 100, 255, 256} {
		r := newRig(t, bits)
		one := hashOf(bits, kLeaf) == hashOf(bits, twin)
		if one != (bits <= 12) {
			t.Fatalf("by %d bits: one hash: %v", bits, one)
		}
		for _, at := range []aim{to("k"), to("x"), overAll()} {
			got := r.ask("18.1", []string{kLeaf}, hashOf(bits, kLeaf), at, listOf(twin))
			own := r.ask("18", []string{kLeaf, twin}, hashOf(bits, kLeaf), at, listOf(kLeaf))
			want := none
			if one {
				want = found{a: kLeaf, b: twin}
			}
			if got != want || own != want {
				t.Errorf("18.1: by %d bits: %v, %v, not %v", bits, got, own, want)
			}
			if root := hashOf(256, kLeaf); bits < 256 { // a root of another book's bits is nobody's hash
				r.findsNone("18.1: another book's root", []string{kLeaf}, root, at, twin)
				r.findsNone("18.1: another book's root", []string{kLeaf}, root, at, kLeaf)
			}
		}
	}
}

// someNode tells a node that may be, but need not stand in the trie of any map, over others of a pool.
func someNode(rnd *rand.Rand, bits int, pool []string) string {
	refOf := func() string {
		b := pool[rnd.Intn(len(pool))]
		if len(b) >= 32 || rnd.Intn(12) == 0 {
			return refTo(bits, b)
		}
		return b
	}
	path := ""
	for range rnd.Intn(4) {
		path += fmt.Sprint(rnd.Intn(2))
	}
	if rnd.Intn(12) == 0 {
		path += strings.Repeat("0", rnd.Intn(64-len(path)))
	}
	switch rnd.Intn(6) {
	case 0:
		return leaf(path, someValue(rnd))
	case 1:
		next := pool[rnd.Intn(len(pool))]
		if len(next) < 32 && len(next) > 17 { // a branch has seventeen items
			return ext(path+"0", next)
		}
		return ext(path+"1", refTo(bits, next))
	case 2:
		if rnd.Intn(4) == 0 {
			return asJunk(rnd.Intn(1000))
		}
	}
	value := ""
	if rnd.Intn(3) == 0 {
		value = someValue(rnd)
	}
	kids := []kid{{0, refOf()}, {1, refOf()}}
	if rnd.Intn(4) == 0 {
		kids = append(kids, kid{rnd.Intn(16), sibling(rnd.Intn(2))})
	}
	return branch(value, kids...)
}

// spoilt tells a list that is changed at random, or not; most often one string is another one of its hash.
func spoilt(rnd *rand.Rand, bits int, l, pool []string) []string {
	l = slices.Clone(l)
	if len(l) == 0 {
		return l
	}
	at, other := rnd.Intn(len(l)), pool[rnd.Intn(len(pool))]
	switch rnd.Intn(12) {
	case 0:
		return without(l, at)
	case 1:
		return with(l, at, other)
	case 2:
		return append(l, other)
	case 3:
		return instead(l, at, other)
	case 4, 5, 6, 7, 8:
		if bits < 256 {
			return instead(l, at, another(bits, hashOf(bits, l[at]), asLeaf([]string{"", "0", "01"}[rnd.Intn(3)]), l[at]))
		}
	}
	return l
}

// littleKey tells a key over which the nodes of someNode say something.
func littleKey(rnd *rand.Rand) string {
	b := make([]byte, rnd.Intn(6))
	for i := range b {
		b[i] = []byte{0x00, 0x01, 0x10, 0x11}[rnd.Intn(4)]
	}
	return string(b)
}

// teller is a source that keeps what it has told.
type teller struct {
	shelf
	told []string
}

func (s *teller) Node(h api.Hash) ([]byte, api.Errno) {
	b, e := s.shelf.Node(h)
	if e == api.OK {
		s.told = append(s.told, string(b))
	}
	return b, e
}

// Over any strings at all, in the map and in the proof, by books of few bits and of many: the model's answer, and every pair a right one.
func TestAnyStrings(t *testing.T) {
	rnd := rand.New(rand.NewSource(186))
	own, told, nothingTold, deepest := 0, 0, 0, 0
	for round := range rounds(300) {
		bits := []int{8, 10, 12, 256}[round%4]
		r := newRig(t, bits)
		pool := []string{leaf("", "v"), leaf("0", "w"), leaf("01", "x"), leaf("1", long), branch("", kid{0, sibling(0)}, kid{1, sibling(0)})}
		for range 5 + rnd.Intn(25) {
			pool = append(pool, someNode(rnd, bits, pool[max(0, len(pool)-8):]))
		}
		src := shelve(bits, pool)
		for range 12 {
			var nodes []string
			for _, s := range pool {
				h := hashOf(bits, s)
				if rnd.Intn(40) > 0 && (src[h] == s || rnd.Intn(8) == 0) && h != emptyRoot(bits) {
					nodes = append(nodes, s)
				}
			}
			rnd.Shuffle(len(nodes), func(i, k int) { nodes[i], nodes[k] = nodes[k], nodes[i] })
			root := hashOf(bits, pool[len(pool)-1-rnd.Intn(6)])
			at := to(littleKey(rnd))
			if rnd.Intn(2) == 0 {
				at = over(within(littleKey(rnd), littleKey(rnd)))
				if rnd.Intn(2) == 0 {
					at = over(from(littleKey(rnd)))
				}
			}
			s := &teller{shelf: src}
			r.prove(s, root, at)
			l := spoilt(rnd, bits, s.told, pool)
			got := r.ask("18.4", nodes, root, at, listOf(l...))
			switch {
			case got.e != api.OK:
				nothingTold++
			case slices.Contains(nodes, got.b) || got.b == nothing:
				own++
			default:
				told++
				deepest = max(deepest, slices.Index(l, got.b))
			}
		}
	}
	if few := rounds(300); own < few/5 || told < few || nothingTold < few || deepest < 3 {
		t.Errorf("%d clashes of nodes, %d pairs out of proofs, the deepest at %d, %d times nothing: too few to tell", own, told, deepest, nothingTold)
	}
}

// Random bytes as a proof, and random strings in one.
func TestRandomBytes(t *testing.T) {
	rnd := rand.New(rand.NewSource(187))
	m := plant(256, grove())
	nodes := m.nodes()
	r := newRig(t, 256)
	for range rounds(5000) {
		b := someString(rnd, rnd.Intn(60))
		switch rnd.Intn(3) {
		case 0:
			b = list(b)
		case 1:
			b = listOf(b, someString(rnd, 1+rnd.Intn(60)))
		}
		if got := r.call(nodes, m.root, someAim(rnd, m.entries), b); got != none {
			t.Fatalf("18.5: %x: %v", b, got)
		}
	}
}
