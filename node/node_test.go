package node_test

import (
	"bytes"
	"strconv"
	"strings"
	"testing"

	"cairn/api"
	"cairn/digest"
	"cairn/node"
)

// newBook tells a book of so many bits that has noted nothing.
func newBook(t *testing.T, bits int) *digest.Book {
	t.Helper()
	book, e := digest.New(bits, 256, make([]byte, 32))
	if e != api.OK {
		t.Fatalf("no book of %d bits: %d", bits, e)
	}
	return book
}

// expectNode holds a node against what the document says of it by name, and then against the model.
func expectNode(t *testing.T, what string, n api.Node, may bool) {
	t.Helper()
	want := api.ErrShape
	if may {
		want = api.OK
	}
	if e := node.Check(n); e != want {
		t.Errorf("7.1: %s: Check = %d, not %d: %s", what, e, want, tell(n))
	}
	if checkNode(t, what, n) != may {
		t.Errorf("the model is wrong: %s: %s", what, tell(n))
	}
}

// expectBytes holds bytes against what the document says of them by name, and then against the model.
func expectBytes(t *testing.T, what string, s string, taken bool) {
	t.Helper()
	want := api.ErrShape
	if taken {
		want = api.OK
	}
	if _, e := node.Decode([]byte(s)); e != want {
		t.Errorf("7.3: %s: Decode(%x) = %d, not %d", what, s, e, want)
	}
	if checkBytes(t, what, []byte(s)) != taken {
		t.Errorf("the model is wrong: %s: %x", what, s)
	}
}

func TestErrorNumber(t *testing.T) {
	_, e := node.Encode(api.Node{})
	_, f := node.Decode(nil)
	_, g := node.Hashes(nil)
	if c := node.Check(api.Node{}); c != 70 || e != 70 || f != 70 || g != 70 {
		t.Errorf("Errors: %d, %d, %d, %d, not ErrShape 70 each", c, e, f, g)
	}
}

func TestExamples(t *testing.T) {
	eighties := strings.Repeat("80", 14)
	two := branch(nil, map[int]api.Ref{1: raw("\xc2\x20a"), 2: raw("\xc2\x20b")})
	hash := someHash(9)
	for _, c := range []struct {
		n    api.Node
		want string
	}{
		{leaf([]byte{1, 2, 3, 4}, []byte("x")), unhex("c5 83 20 12 34 78")},
		{leaf(nil, []byte{1}), unhex("c2 20 01")},
		{leaf(nil, []byte("a")), unhex("c2 20 61")},
		{two, unhex("d5 80 c2 20 61 c2 20 62" + eighties)},
		{extension([]byte{7}, raw(unhex("d5 80 c2 20 61 c2 20 62"+eighties))), unhex("d7 17 d5 80 c2 20 61 c2 20 62" + eighties)},
		{extension([]byte{7}, api.Ref{Kind: api.RefHash, Hash: hash}), unhex("e2 17 a0") + string(hash[:])},
	} {
		if b, e := node.Encode(c.n); e != api.OK || string(b) != c.want {
			t.Errorf("7.2: Encode(%s) = %x, %d, not %x", tell(c.n), b, e, c.want)
		}
		if n, e := node.Decode([]byte(c.want)); e != api.OK || !same(n, c.n) {
			t.Errorf("7.3: Decode(%x) = %s, %d, not %s", c.want, tell(n), e, tell(c.n))
		}
	}
	for _, s := range []string{"c3 20 81 01", "80", "", "c0", "c1 80"} {
		if n, e := node.Decode([]byte(unhex(s))); e != api.ErrShape || !same(n, api.Node{}) {
			t.Errorf("7.3: Decode(%s) = %s, %d, not the zero node, ErrShape", s, tell(n), e)
		}
	}
	expectNode(t, "a branch with kid 1 alone", branch(nil, map[int]api.Ref{1: raw("\xc2\x20a")}), false)
	expectNode(t, "with kid 1 and Full", branch([]byte("v"), map[int]api.Ref{1: raw("\xc2\x20a")}), true)
	expectNode(t, "an extension over a whole leaf", extension([]byte{7}, raw("\xc2\x20a")), false)
	book := newBook(t, 256)
	short := []byte(unhex("d7 17 d5 80 c2 20 61 c2 20 62" + eighties))
	if r := node.Refer(book, short); len(short) != 24 || r.Kind != api.RefNode || !bytes.Equal(r.Node, short) {
		t.Errorf("7.4: Refer of 24 bytes = %+v", r)
	}
	h, g := hashed(1), hashed(2)
	b, _ := node.Encode(branch(nil, map[int]api.Ref{0: h, 3: shortLeaf('a'), 4: g, 5: h}))
	if l, e := node.Hashes(b); e != api.OK || !sameHashes(l, []api.Hash{h.Hash, g.Hash, h.Hash}) {
		t.Errorf("7.6: Hashes = %x, %d, not h, g, h", l, e)
	}
}

func TestLeaves(t *testing.T) {
	for _, path := range []int{0, 1, 2, 63, 64, 65, 66, 200} {
		for _, value := range []int{0, 1, 2, 55, 56, 255, 256, 257, 300} {
			n := leaf(somePath(path), someBytes(value))
			expectNode(t, "a leaf", n, path <= 64 && value >= 1 && value <= 256)
		}
	}
	for _, length := range []int{1, 2, 33, 64} {
		for at := range length {
			for _, nibble := range []byte{0, 15, 16, 17, 32, 255} {
				path := somePath(length)
				path[at] = nibble
				expectNode(t, "a leaf with that nibble", leaf(path, []byte("x")), nibble <= 15)
				expectNode(t, "an extension with that nibble", extension(path, hashed(1)), nibble <= 15)
			}
		}
	}
	for b := range 256 {
		expectNode(t, "a leaf with a value of one byte", leaf([]byte{3}, []byte{byte(b)}), true)
	}
}

func TestExtensions(t *testing.T) {
	nexts := []struct {
		what string
		next api.Ref
		may  bool
	}{
		{"nothing", none(), false},
		{"a hash", hashed(5), true},
		{"the hash of zeros", api.Ref{Kind: api.RefHash}, true},
		{"a whole branch", whole(branchOf(22)), true},
		{"a whole full branch", whole(branch([]byte("v"), map[int]api.Ref{4: shortLeaf('a')})), true},
		{"a whole branch of 31 bytes", whole(branchOf(31)), true},
		{"a whole branch of 32 bytes", whole(branchOf(32)), false},
		{"a whole leaf", shortLeaf('a'), false},
		{"a whole leaf of 31 bytes", whole(leafOf(31)), false},
		{"a whole extension", whole(extensionOf(24)), false},
		{"a whole branch of one kid", whole(branch(nil, map[int]api.Ref{1: shortLeaf('a')})), false},
	}
	for _, path := range []int{0, 1, 2, 63, 64, 65, 66, 200} {
		for _, c := range nexts {
			expectNode(t, "an extension over "+c.what, extension(somePath(path), c.next), c.may && path >= 1 && path <= 64)
		}
	}
}

func TestBranches(t *testing.T) {
	for _, full := range []bool{false, true} {
		for _, value := range []int{0, 1, 2, 255, 256, 257} {
			for kids := range 17 {
				n := api.Node{Kind: api.Branch, Full: full, Value: someBytes(value)}
				m := n
				for i := range kids {
					n.Kids[(5*i+3)%16] = hashed(i)
					m.Kids[15-i] = shortLeaf(byte(i))
				}
				may := kids >= 2 && !full && value == 0 || kids >= 1 && full && value >= 1 && value <= 256
				what := "a branch of " + strconv.Itoa(kids) + " kids with a value of " + strconv.Itoa(value)
				expectNode(t, what, n, may)
				expectNode(t, what, m, may)
			}
		}
	}
	for i := range 16 {
		one := branch(nil, map[int]api.Ref{i: hashed(i)})
		expectNode(t, "a branch with one kid", one, false)
		one.Full, one.Value = true, []byte("v")
		expectNode(t, "a branch with one kid and a value", one, true)
		one.Full = false
		expectNode(t, "a branch with one kid and a value, not Full", one, false)
		for k := range 16 {
			expectNode(t, "a branch with these two kids", branch(nil, map[int]api.Ref{i: hashed(i), k: shortLeaf('a')}), i != k)
		}
	}
}

func TestOtherFields(t *testing.T) {
	set := map[string]func(n *api.Node){
		"Path of one nibble": func(n *api.Node) { n.Path = []byte{0} },
		"Next a hash":        func(n *api.Node) { n.Next = hashed(1) },
		"Next whole":         func(n *api.Node) { n.Next = whole(branchOf(22)) },
		"Next none and hash": func(n *api.Node) { n.Next = api.Ref{Hash: someHash(1)} },
		"Next none and byte": func(n *api.Node) { n.Next = api.Ref{Node: []byte{0}} },
		"Next of kind 3":     func(n *api.Node) { n.Next = api.Ref{Kind: 3} },
		"Full":               func(n *api.Node) { n.Full = true },
		"Value":              func(n *api.Node) { n.Value = []byte("x") },
	}
	for i := range 16 {
		k := strconv.Itoa(i)
		set["hash as kid "+k] = func(n *api.Node) { n.Kids[i] = hashed(i) }
		set["zero hash as kid "+k] = func(n *api.Node) { n.Kids[i] = api.Ref{Kind: api.RefHash} }
		set["whole kid "+k] = func(n *api.Node) { n.Kids[i] = shortLeaf('a') }
		set["none and hash as kid "+k] = func(n *api.Node) { n.Kids[i] = api.Ref{Hash: api.Hash{31: 1}} }
		set["none and byte as kid "+k] = func(n *api.Node) { n.Kids[i] = api.Ref{Node: []byte{128}} }
		set["kind 3 as kid "+k] = func(n *api.Node) { n.Kids[i] = api.Ref{Kind: 3} }
	}
	own := map[int][]string{api.Leaf: {"Path", "Value"}, api.Extension: {"Path", "Next a hash", "Next whole"}, api.Branch: {"hash as kid", "zero hash as kid", "whole kid"}}
	bases := []api.Node{leaf([]byte{1, 2}, []byte("x")), extension([]byte{1, 2}, hashed(2)), branch(nil, map[int]api.Ref{1: hashed(1), 2: hashed(2)})}
	for _, base := range bases {
		expectNode(t, "a plain node", base, true)
		for what, change := range set {
			n := base
			change(&n)
			may := false
			for _, beginning := range own[base.Kind] {
				may = may || strings.HasPrefix(what, beginning)
			}
			expectNode(t, "a node of kind "+strconv.Itoa(base.Kind)+" with "+what, n, may)
		}
	}
}

func TestOtherKinds(t *testing.T) {
	for _, base := range someNodes() {
		for _, kind := range []int{-1 << 63, -3, -2, -1, 0, 1, 2, 3, 4, 5, 7, 255, 256, 257, 1<<32 + 1, 1<<63 - 1} {
			n := base
			n.Kind = kind
			expectNode(t, "kind "+strconv.Itoa(kind), n, kind == base.Kind)
		}
	}
	for _, kind := range []int{-1, 0, 1, 2, 3, 4} {
		expectNode(t, "a node with a kind alone", api.Node{Kind: kind}, false)
	}
}

// refCase is a ref, and whether it is right.
type refCase struct {
	what  string
	ref   api.Ref
	right bool
}

// someRefs tells refs, right and wrong.
func someRefs() []refCase {
	hash := someHash(3)
	deep := branch([]byte("v"), map[int]api.Ref{5: whole(leaf([]byte{1, 2}, []byte("xy")))})
	out := []refCase{
		{"none", none(), true},
		{"none with a hash", api.Ref{Hash: hash}, false},
		{"none with the last bit of a hash", api.Ref{Hash: api.Hash{31: 1}}, false},
		{"none with bytes", api.Ref{Node: []byte("\xc2\x20a")}, false},
		{"none with empty bytes", api.Ref{Node: []byte{}}, true},
		{"a hash", api.Ref{Kind: 1, Hash: hash}, true},
		{"a hash of zeros", api.Ref{Kind: 1}, true},
		{"a hash with bytes", api.Ref{Kind: 1, Hash: hash, Node: []byte("\xc2\x20a")}, false},
		{"a hash with a byte", api.Ref{Kind: 1, Node: []byte{0}}, false},
		{"a hash with empty bytes", api.Ref{Kind: 1, Hash: hash, Node: []byte{}}, true},
		{"a whole leaf", shortLeaf('a'), true},
		{"a whole leaf with a hash", api.Ref{Kind: 2, Hash: hash, Node: []byte("\xc2\x20a")}, false},
		{"a whole leaf with the first bit of a hash", api.Ref{Kind: 2, Hash: api.Hash{128}, Node: []byte("\xc2\x20a")}, false},
		{"a whole branch with a hash", api.Ref{Kind: 2, Hash: hash, Node: []byte(wantEncoding(branchOf(22)))}, false},
		{"a whole node without bytes", api.Ref{Kind: 2}, false},
		{"a whole node with a hash alone", api.Ref{Kind: 2, Hash: hash}, false},
		{"a whole leaf of 31 bytes", whole(leafOf(31)), true},
		{"a whole leaf of 32 bytes", whole(leafOf(32)), false},
		{"a whole leaf of 33 bytes", whole(leafOf(33)), false},
		{"a whole branch of 31 bytes", whole(branchOf(31)), true},
		{"a whole branch of 32 bytes", whole(branchOf(32)), false},
		{"a whole extension of 31 bytes", whole(extensionOf(31)), true},
		{"a whole extension of 32 bytes", whole(extensionOf(32)), false},
		{"a whole extension over a hash", whole(extension([]byte{1}, hashed(1))), false},
		{"a whole branch over a hash", whole(branch([]byte("v"), map[int]api.Ref{1: hashed(1)})), false},
		{"a whole node in a whole node", whole(deep), true},
		{"three whole nodes in one another", whole(extension([]byte{1}, whole(deep))), true},
		{"a whole extension over a whole leaf", whole(extension([]byte{1}, shortLeaf('a'))), false},
		{"a whole extension over nothing", whole(extension([]byte{1}, none())), false},
		{"a whole extension over an extension", whole(extension([]byte{1}, whole(extensionOf(24)))), false},
		{"a whole branch with a kid that may not be", whole(branch([]byte("v"), map[int]api.Ref{1: raw("\xc2\x20\x80")})), false},
		{"a whole branch with one kid", whole(branch(nil, map[int]api.Ref{1: shortLeaf('a')})), false},
	}
	for _, s := range []string{"\x80", "\x00", "a", "\xc0", "\xc1\x80", "\xc2\x20", "\xc2\x20aa", "\xc3\x20\x81\x01", "\xc2\x20\x80", "\xc2\x00a", "\xc2\x40a", "\x83abc", string(hash[:31]), string(hash[:])} {
		out = append(out, refCase{"bytes that are no encoding", raw(s), false})
	}
	for _, kind := range []int{-1 << 63, -1, 3, 4, 255, 256, 257, 258, 1<<32 + 1} {
		out = append(out, refCase{"another kind", api.Ref{Kind: kind}, false}, refCase{"another kind with a hash", api.Ref{Kind: kind, Hash: hash}, false})
		out = append(out, refCase{"another kind with a node", api.Ref{Kind: kind, Node: []byte("\xc2\x20a")}, false})
	}
	return out
}

func TestRefs(t *testing.T) {
	for _, c := range someRefs() {
		for i := range 16 {
			n := branch([]byte("v"), map[int]api.Ref{(i + 1) % 16: hashed(1)})
			n.Kids[i] = c.ref
			expectNode(t, c.what+" as kid "+strconv.Itoa(i), n, c.right)
			n = branch([]byte("v"), nil)
			n.Kids[i] = c.ref
			expectNode(t, c.what+" as the one kid "+strconv.Itoa(i), n, c.right && c.ref.Kind != api.RefNone)
		}
		over, _ := wantNode(string(c.ref.Node))
		next := c.right && (c.ref.Kind == api.RefHash || c.ref.Kind == api.RefNode && over.Kind == api.Branch)
		expectNode(t, c.what+" as Next", extension([]byte{1}, c.ref), next)
	}
}

func TestRefer(t *testing.T) {
	for _, bits := range []int{8, 12, 256} {
		for _, length := range []int{0, 1, 2, 24, 30, 31, 32, 33, 55, 56, 790, 5000} {
			b := someBytes(length)
			book := newBook(t, bits)
			r := node.Refer(book, b)
			noted, coded := book.Len()
			if length < 32 && (r.Kind != 2 || r.Hash != api.Hash{} || !bytes.Equal(r.Node, b)) {
				t.Errorf("7.4: Refer of %d bytes = %+v, not the RefNode with them", length, r)
			}
			if length < 32 && noted != 0 {
				t.Errorf("7.4: %d bytes are hashed", length)
			}
			if length >= 32 && (r.Kind != 1 || len(r.Node) != 0 || r.Hash != newBook(t, bits).Hash(b)) {
				t.Errorf("7.4: Refer of %d bytes = %+v, not the RefHash with their hash of %d bits", length, r, bits)
			}
			if book.Hash(b); length >= 32 && noted != 1 {
				t.Errorf("7.4: %d bytes: %d strings hashed, not one", length, noted)
			}
			if again, _ := book.Len(); length >= 32 && again != 1 {
				t.Errorf("7.4: of %d bytes something else was hashed", length)
			}
			if coded != 0 || !book.Sound() {
				t.Errorf("7.4: Refer has coded %d bodies", coded)
			}
			if r := node.Refer(nil, b); r.Kind != 0 || r.Hash != (api.Hash{}) || len(r.Node) != 0 {
				t.Errorf("7.4: Refer of a nil book and %d bytes = %+v, not the zero Ref", length, r)
			}
		}
	}
	for _, n := range someNodes() {
		encoding, _ := node.Encode(n)
		over := branch([]byte("v"), map[int]api.Ref{6: node.Refer(newBook(t, 256), encoding)})
		expectNode(t, "a branch over what Refer answers", over, true)
	}
}

func TestEmpty(t *testing.T) {
	full := api.Hash([]byte(unhex("76be8b528d0075f7aae98d6fa57a6d3c83ae480a8469e668d7b0af968995ac71")))
	cut := api.Hash{0x76, 0xb0}
	for bits, want := range map[int]api.Hash{256: full, 12: cut, 8: {0x76}} {
		book := newBook(t, bits)
		if h := node.Empty(book); h != want || h != newBook(t, bits).Hash([]byte{128}) {
			t.Errorf("7.5: Empty of a book of %d bits = %x, not %x", bits, h, want)
		}
		noted, coded := book.Len()
		book.Hash([]byte{128})
		if again, _ := book.Len(); noted != 1 || again != 1 || coded != 0 {
			t.Errorf("7.5: Empty has hashed %d strings, with 80 %d, and coded %d", noted, again, coded)
		}
		if node.Empty(book) != want {
			t.Errorf("7.5: Empty of one book twice: two hashes")
		}
	}
	if h := node.Empty(nil); h != (api.Hash{}) {
		t.Errorf("7.5: Empty of a nil book = %x, not the zero Hash", h)
	}
}

func TestHashes(t *testing.T) {
	zero := api.Ref{Kind: api.RefHash}
	all, want := map[int]api.Ref{}, []api.Hash{}
	for i := range 16 {
		all[i] = hashed(i * i)
		want = append(want, someHash(i*i))
	}
	for _, c := range []struct {
		n    api.Node
		want []api.Hash
	}{
		{leaf([]byte{1}, []byte("x")), nil},
		{leaf(nil, someBytes(32)), nil},
		{extension([]byte{1}, hashed(4)), []api.Hash{someHash(4)}},
		{extension([]byte{1}, zero), []api.Hash{{}}},
		{extension([]byte{1}, whole(branchOf(31))), nil},
		{branchOf(22), nil},
		{branch(someBytes(32), all), want},
		{branch(someBytes(32), map[int]api.Ref{9: hashed(1)}), []api.Hash{someHash(1)}},
		{branch(nil, map[int]api.Ref{15: hashed(1), 0: hashed(2), 7: whole(extensionOf(31))}), []api.Hash{someHash(2), someHash(1)}},
		{branch(nil, map[int]api.Ref{3: hashed(2), 4: hashed(2), 9: zero, 10: zero}), []api.Hash{someHash(2), someHash(2), {}, {}}},
	} {
		b := []byte(wantEncoding(c.n))
		if l, e := node.Hashes(b); e != api.OK || !sameHashes(l, c.want) {
			t.Errorf("7.6: Hashes(%x) = %x, %d, not %x", b, l, e, c.want)
		}
		if l, e := node.Hashes(b[:len(b)-1]); e != api.ErrShape || len(l) != 0 {
			t.Errorf("7.6: Hashes of a beginning = %x, %d, not none, ErrShape", l, e)
		}
	}
	wrong := branch(nil, map[int]api.Ref{3: hashed(2)})
	if l, e := node.Hashes([]byte(wantEncoding(wrong))); e != api.ErrShape || len(l) != 0 {
		t.Errorf("7.6: Hashes of a branch with one kid = %x, %d, not none, ErrShape", l, e)
	}
}

func TestLongestEncoding(t *testing.T) {
	all := map[int]api.Ref{}
	for i := range 16 {
		all[i] = hashed(i)
	}
	if b, e := node.Encode(branch(someBytes(256), all)); e != api.OK || len(b) != 790 || len(b) > api.MaxNode {
		t.Errorf("Nodes: a full branch over sixteen hashes has %d bytes, error %d, not 790", len(b), e)
	}
}
