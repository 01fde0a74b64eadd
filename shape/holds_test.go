package shape_test

import (
	"fmt"
	"maps"
	"math/rand"
	"slices"
	"strings"
	"testing"

	"cairn/api"
	"cairn/cursor"
	"cairn/digest"
	"cairn/find"
	"cairn/grow"
	"cairn/node"
	"cairn/shape"
)

func rounds(most int) int {
	if testing.Short() {
		return most / 10
	}
	return most
}

// someKey tells a key: some are dense, some long, some begin as others do.
func someKey(rnd *rand.Rand, kind int) string {
	switch kind {
	case 0: // few digits, short: beginnings of one another
		b := make([]byte, rnd.Intn(5))
		for i := range b {
			b[i] = []byte{0x00, 0x01, 0x10, 0x11, 0xf1, 0xff}[rnd.Intn(6)]
		}
		return string(b)
	case 1: // anything
		b := make([]byte, rnd.Intn(33))
		rnd.Read(b)
		return string(b)
	case 2: // the longest ones, with long beginnings in common
		b := []byte(ofSize(32))
		for range rnd.Intn(3) {
			b[rnd.Intn(32)] ^= byte(1 << rnd.Intn(8))
		}
		return string(b)
	}
	return strings.Repeat("\x77", rnd.Intn(33)) // one behind the other
}

func someValue(rnd *rand.Rand) string {
	size := []int{1, 2, 20, 31, 32, 33, 55, 56, 255, 256, 1 + rnd.Intn(256)}[rnd.Intn(11)]
	return strings.Repeat(string([]byte{byte(1 + rnd.Intn(255))}), size)
}

func someMap(rnd *rand.Rand) map[string]string {
	entries := map[string]string{}
	kind := rnd.Intn(5)
	few := rnd.Intn(3) == 0 // values of which many are one, so that nodes come again
	for range rnd.Intn(40) {
		k := kind
		if kind == 4 {
			k = rnd.Intn(4)
		}
		value := someValue(rnd)
		if few {
			value = []string{"v", long}[rnd.Intn(2)]
		}
		entries[someKey(rnd, k)] = value
	}
	return entries
}

// near tells a key that is a map's, or is like one, or any.
func near(rnd *rand.Rand, entries map[string]string) string {
	key := ""
	if len(entries) > 0 {
		key = slices.Sorted(maps.Keys(entries))[rnd.Intn(len(entries))]
	}
	switch rnd.Intn(6) {
	case 0:
		return key[:rnd.Intn(len(key)+1)]
	case 1:
		b := []byte(key)
		if len(b) > 0 {
			b[rnd.Intn(len(b))] ^= byte(1 << rnd.Intn(8))
		}
		return string(b)
	case 2:
		more := key + someKey(rnd, 0)
		return more[:min(32, len(more))]
	case 3:
		return someKey(rnd, rnd.Intn(4))
	}
	return key
}

func TestAnyMap(t *testing.T) {
	rnd := rand.New(rand.NewSource(143))
	for round := range rounds(600) {
		holds(t, "14.4", []int{256, 255, 128, 64, 16, 12, 9, 8}[round%8], someMap(rnd))
	}
}

// shelf is a source of what Nodes told.
type shelf map[api.Hash]string

func (s shelf) Node(h api.Hash) ([]byte, api.Errno) {
	if b, there := s[h]; there {
		return []byte(b), api.OK
	}
	return nil, api.ErrAbsent
}

func shelve(blobs []blob) shelf {
	out := shelf{}
	for _, b := range blobs {
		out[api.Hash([]byte(b.key))] = b.data
	}
	return out
}

// census counts the nodes below a ref, each as often as it stands there.
func (s shelf) census(t *testing.T, r api.Ref) census {
	t.Helper()
	encoding := string(r.Node)
	if r.Kind == api.RefHash {
		encoding = s[r.Hash]
	}
	n, e := node.Decode([]byte(encoding))
	if e != api.OK {
		t.Fatalf("14.10: what a blob leads to is not there, or is no node: %x", encoding)
	}
	var c census
	switch n.Kind {
	case api.Leaf:
		return census{1, 0, 0, 1}
	case api.Extension:
		c = s.census(t, n.Next)
		c.extensions++
	case api.Branch:
		for _, kid := range n.Kids {
			if kid.Kind != api.RefNone {
				below := s.census(t, kid)
				c = census{c.leaves + below.leaves, c.extensions + below.extensions, c.branches + below.branches, max(c.depth, below.depth)}
			}
		}
		c.branches++
	}
	c.depth++
	return c
}

// fulls counts the values in branches below a ref.
func (s shelf) fulls(r api.Ref) int {
	encoding := string(r.Node)
	if r.Kind == api.RefHash {
		encoding = s[r.Hash]
	}
	n, _ := node.Decode([]byte(encoding))
	out := 0
	if n.Full {
		out++
	}
	for _, kid := range append(n.Kids[:], n.Next) {
		if kid.Kind != api.RefNone {
			out += s.fulls(kid)
		}
	}
	return out
}

// The counts, held against a walk over the nodes, and their bounds: 14.7, 14.9.
func TestCountIsAWalks(t *testing.T) {
	rnd := rand.New(rand.NewSource(144))
	for range rounds(300) {
		entries := someMap(rnd)
		l := inOrder(entries)
		c, e := countOf(t, l)
		if e != api.OK {
			t.Fatal(e)
		}
		n := len(l)
		if n == 0 {
			continue
		}
		book := newBook(t, 256)
		root, _ := rootOf(t, book, l)
		blobs, _ := nodesOf(t, book, l)
		s := shelve(blobs)
		top := api.Ref{Kind: api.RefHash, Hash: root}
		if walked := s.census(t, top); c != walked {
			t.Fatalf("14.7: %q: %v, but a walk meets %v", l, c, walked)
		}
		if full := s.fulls(top); c.leaves+full != n || c.branches > n-1 || c.extensions > c.branches || c.depth > 65 {
			t.Fatalf("14.9: %q: %v, %d full", l, c, full)
		}
	}
}

// A way of a branch at each nibble is 65 nodes long; no way is longer, with extensions on it or without.
func TestDeepestTrie(t *testing.T) {
	key := ofSize(32)
	for _, step := range []int{1, 2, 3, 5, 63} {
		entries := map[string]string{key: "v"}
		var at []int
		for i := 0; i < 64; i += step {
			b := []byte(key)
			b[i/2] ^= []byte{16, 1}[i%2]
			entries[string(b)] = "w"
			at = append(at, i)
		}
		want := census{len(at) + 1, len(at) - 1, len(at), 2 * len(at)}
		if step == 1 {
			want = census{65, 0, 64, 65}
		}
		if got := holds(t, "14.9", 256, entries); got.census != want {
			t.Errorf("14.7, 14.9: a branch at each of %v: %v, not %v", at, got.census, want)
		}
	}
	chain := map[string]string{}
	for i := range 33 {
		chain[key[:i]] = "v"
	}
	if got := holds(t, "14.9", 256, chain); got.census != (census{1, 31, 32, 64}) {
		t.Errorf("14.7, 14.9: keys that begin one another: %v", got.census)
	}
	for i := range 32 {
		chain[key[:i]+"\x5b"] = "w"
	}
	if got := holds(t, "14.9", 256, chain); got.census != (census{33, 0, 64, 65}) {
		t.Errorf("14.7, 14.9: keys that begin one another, and others beside them: %v", got.census)
	}
}

// As many branches as there can be, and as many extensions as branches.
func TestMostBranches(t *testing.T) {
	for n := 2; n <= 16; n++ {
		few, many := map[string]string{}, map[string]string{}
		for i := range n {
			few["k"+string([]byte{byte(i)})] = "v"
			b := []byte(ofSize(32))
			b[31-2*i] ^= 1
			many[string(b)] = "v"
		}
		if got := holds(t, "14.9", 256, few); got.census != (census{n, 1, 1, 3}) {
			t.Errorf("14.9: %d kids of one branch: %v", n, got.census)
		}
		if got := holds(t, "14.9", 256, many); got.census.branches != n-1 || got.census.extensions != n-1 {
			t.Errorf("14.9: %d keys that part one by one: %v", n, got.census)
		}
	}
	for _, l := range [][]pair{nil, pairs("", "e"), pairs("12", "a")} {
		if c, e := countOf(t, l); c.branches != 0 || c.extensions != 0 || c.leaves != len(l) || e != api.OK {
			t.Errorf("14.9: %q: %v, %d", l, c, e)
		}
	}
}

// What leads to what: 14.10, with books of few bits too.
func TestEveryBlobIsLedTo(t *testing.T) {
	rnd := rand.New(rand.NewSource(145))
	for round := range rounds(300) {
		bits := []int{256, 64, 12, 8}[round%4]
		book := newBook(t, bits)
		l := inOrder(someMap(rnd))
		root, _ := rootOf(t, book, l)
		blobs, e := nodesOf(t, book, l)
		if e != api.OK {
			t.Fatal(e)
		}
		s := shelve(blobs)
		ledTo := map[api.Hash]int{}
		if len(l) > 0 {
			ledTo[root]++
		}
		for _, b := range blobs {
			hashes, e := node.Hashes([]byte(b.data))
			if e != api.OK {
				t.Fatalf("14.6: %x is no node", b.data)
			}
			for _, h := range hashes {
				ledTo[h]++
				if _, there := s[h]; !there {
					t.Fatalf("14.10: %d bits: %x is led to, and is not there", bits, h)
				}
			}
		}
		for h := range s {
			if ledTo[h] == 0 {
				t.Fatalf("14.10: %d bits: nothing leads to %x", bits, h)
			}
		}
		if len(ledTo) != len(s) {
			t.Fatalf("14.6: %d bits: the root's own is not there", bits)
		}
	}
}

// The other layers find in what Nodes tells just the map.
func TestTheMapIsFound(t *testing.T) {
	rnd := rand.New(rand.NewSource(146))
	for range rounds(150) {
		entries := someMap(rnd)
		l := inOrder(entries)
		book := newBook(t, 256)
		root, _ := rootOf(t, book, l)
		blobs, _ := nodesOf(t, book, l)
		s := shelve(blobs)
		if got, more, e := cursor.Scan(s, book, root, api.Bounds{Open: true}, 1000); !slices.Equal(told(got), l) || more || e != api.OK {
			t.Fatalf("14.4: a scan tells %q, %v, %d, not %q", told(got), more, e, l)
		}
		for range 20 {
			key := near(rnd, entries)
			want, there := entries[key]
			if v, found, e := find.Get(s, book, root, []byte(key)); string(v) != want || found != there || e != api.OK {
				t.Fatalf("14.4: %x has %q, %v, %d", key, v, found, e)
			}
		}
		if !book.Sound() {
			t.Fatalf("the book is not sound")
		}
	}
}

// grown tells the root and the nodes of a map that came about by changes one behind the other.
func grown(t *testing.T, book *digest.Book, changes []api.Change) (api.Hash, []blob) {
	t.Helper()
	stage, _ := grow.New(shelf{}, book)
	root := node.Empty(book)
	for _, c := range changes {
		var e api.Errno
		if root, e = stage.Apply(root, []api.Change{c}); e != api.OK {
			t.Fatalf("a change: %d", e)
		}
	}
	reached, e := stage.Reach(root)
	if e != api.OK {
		t.Fatalf("Reach: %d", e)
	}
	var out []blob
	for _, b := range reached {
		out = append(out, blob{string(b.Key[:]), string(b.Data)})
	}
	slices.SortFunc(out, func(a, b blob) int { return strings.Compare(a.key, b.key) })
	return root, out
}

// A trie that came about by puts and deletes, in any order, is the one of its entries: 14.8, W8.
func TestHowAMapCameAbout(t *testing.T) {
	rnd := rand.New(rand.NewSource(147))
	for range rounds(150) {
		entries := someMap(rnd)
		l := inOrder(entries)
		book := newBook(t, 256)
		want, e := rootOf(t, book, l)
		nodes, f := nodesOf(t, book, l)
		if e != api.OK || f != api.OK {
			t.Fatal(e, f)
		}
		for range 3 {
			var changes []api.Change
			for _, p := range l {
				changes = append(changes, put(p.key, p.value))
			}
			rnd.Shuffle(len(changes), func(i, j int) { changes[i], changes[j] = changes[j], changes[i] })
			for range rnd.Intn(12) { // what goes again, or is put again
				key := near(rnd, entries)
				if _, there := entries[key]; there {
					changes = slices.Insert(changes, 0, put(key, someValue(rnd)), gone(key))
				} else {
					at := rnd.Intn(len(changes) + 1)
					changes = append(slices.Insert(changes, at, put(key, someValue(rnd))), gone(key))
				}
			}
			root, reached := grown(t, book, changes)
			if root != want || !slices.Equal(reached, nodes) {
				t.Fatalf("14.8, W8: %s: %x with %d nodes, not %x with %d", tell(changes...), root, len(reached), want, len(nodes))
			}
			behind, e := applied(t, nil, changes)
			if again, f := rootOf(t, book, behind); again != want || e != api.OK || f != api.OK {
				t.Fatalf("14.8: behind %s: %x, %d, %d", tell(changes...), again, e, f)
			}
		}
	}
}

// Root(Sort(l)) is one for every order of a list.
func TestRootOfEveryOrder(t *testing.T) {
	book := newBook(t, 256)
	l := pairs("", "e", "12", "a", "1200", long, "13", "c", "80", long, "8081", "d")
	want := model(256, mapOf(l))
	orders(l, func(l []pair) {
		if root, e := rootOf(t, book, sorted(t, l)); root != want.root || e != api.OK {
			t.Fatalf("14.8: %q: %x, %d", l, root, e)
		}
	})
	rnd := rand.New(rand.NewSource(148))
	for range rounds(200) {
		entries := someMap(rnd)
		l := inOrder(entries)
		want := model(256, entries)
		rnd.Shuffle(len(l), func(i, j int) { l[i], l[j] = l[j], l[i] })
		if root, e := rootOf(t, book, sorted(t, l)); root != want.root || e != api.OK {
			t.Fatalf("14.8: %q: %x, %d", l, root, e)
		}
	}
}

// Two maps have one root just if they are the same, or the book tells why not.
func TestOneRootAMap(t *testing.T) {
	for _, bits := range []int{256, 24, 8} {
		book := newBook(t, bits)
		whose := map[api.Hash]string{}
		met := false
		ask := func(entries map[string]string) {
			l := inOrder(entries)
			root, e := rootOf(t, book, l)
			if e != api.OK {
				t.Fatal(e)
			}
			text := fmt.Sprintf("%q", l)
			if other, there := whose[root]; there && other != text {
				met = true
				if book.Sound() {
					t.Fatalf("14.8: %s and %s have one root", text, other)
				}
			}
			whose[root] = text
		}
		keys := []string{"", "\x11", "\x12", "\x21", "\x11\x11", "\x11\x12", "\x11\x21"}
		for which := range 2187 { // each key has nothing, or one of two values
			entries := map[string]string{}
			for _, key := range keys {
				if which%3 > 0 {
					entries[key] = []string{"v", long}[which%3-1]
				}
				which /= 3
			}
			ask(entries)
		}
		if bits == 256 && len(whose) != 2187 || bits == 8 && !met || bits == 256 && !book.Sound() {
			t.Errorf("14.8: %d bits: %d roots of 2187 maps, two with one: %v", bits, len(whose), met)
		}
	}
}

// Maps of many entries.
func TestGreatMaps(t *testing.T) {
	for _, value := range []string{"v", long} {
		entries := map[string]string{"": value}
		for i := range 256 {
			entries[string([]byte{byte(i)})] = value
		}
		if got := holds(t, "14.4", 256, entries); got.census != (census{256, 0, 17, 3}) {
			t.Errorf("14.7: all keys of one byte: %v", got.census)
		}
	}
	var l []pair
	for i := range 1 << 16 {
		l = append(l, pair{string([]byte{byte(i >> 8), byte(i)}), fmt.Sprint(i)})
	}
	if c, e := countOf(t, l); c != (census{1 << 16, 0, 1 + 16 + 256 + 4096, 5}) || e != api.OK {
		t.Errorf("14.7: all keys of two bytes: %v, %d", c, e)
	}
	if testing.Short() {
		return
	}
	book := newBook(t, 256)
	root, e := rootOf(t, book, l)
	blobs, f := nodesOf(t, book, l)
	if e != api.OK || f != api.OK || len(blobs) != 1+16+256+4096 {
		t.Fatalf("14.6: all keys of two bytes: %d nodes, %d, %d", len(blobs), e, f)
	}
	got, more, e := cursor.Scan(shelve(blobs), book, root, api.Bounds{Open: true}, 1<<16)
	if !slices.Equal(told(got), l) || more || e != api.OK {
		t.Errorf("14.4: all keys of two bytes: %d entries, %v, %d", len(got), more, e)
	}
}

// A map may be told of pieces of one memory.
func TestEntriesOfOneMemory(t *testing.T) {
	memory := []byte(strings.Repeat("\x11", 40))
	var entries []api.Entry
	for i := range 33 {
		entries = append(entries, api.Entry{Key: memory[:i], Value: memory[1 : 1+i/2+1]})
	}
	l := told(entries)
	book := newBook(t, 256)
	want := model(256, mapOf(l))
	if root, e := shape.Root(book, entries); root != want.root || e != api.OK {
		t.Errorf("14.5: %x, %d", root, e)
	}
	if got, e := shape.Apply(entries, []api.Change{{Key: memory[:7], Gone: true}, {Key: memory[:9], Value: memory}}); !slices.Equal(told(got), inOrder(changed(mapOf(l), []api.Change{gone(string(memory[:7])), put(string(memory[:9]), string(memory))}))) || e != api.OK {
		t.Errorf("14.3: %q, %d", told(got), e)
	}
}
