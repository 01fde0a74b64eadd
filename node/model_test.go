package node_test

import (
	"bytes"
	"encoding/hex"
	"math/rand"
	"slices"
	"strings"
	"testing"

	"cairn/api"
	"cairn/node"
)

// The model: the section Nodes written down a second time, over texts of bytes and without layers 5 and 6. It writes a node's encoding by hand; what it reads, it reads loosely, and takes only if the node that it then has may be and is written as just those bytes.

// form tells a string of layer 5, or a list of what is written already.
func form(base byte, body string) string {
	if base == 0x80 && len(body) == 1 && body[0] < 0x80 {
		return body
	}
	switch n := len(body); {
	case n < 56:
		return string([]byte{base + byte(n)}) + body
	case n < 256:
		return string([]byte{base + 56, byte(n)}) + body
	default:
		return string([]byte{base + 57, byte(n / 256), byte(n % 256)}) + body
	}
}

// str tells the form of a string.
func str(s string) string { return form(0x80, s) }

// list tells the form of a list of items that are forms already.
func list(items ...string) string { return form(0xc0, strings.Join(items, "")) }

// wantWay tells the bytes of a path (layer 6).
func wantWay(nibbles []byte, leaf bool) string {
	digits := ""
	for _, n := range nibbles {
		digits += "0123456789abcdef"[n : n+1]
	}
	flag := 0
	if leaf {
		flag = 2
	}
	if len(digits)%2 == 1 {
		return unhex("0123"[flag+1:flag+2] + digits)
	}
	return unhex("0123"[flag:flag+1] + "0" + digits)
}

// wantRef tells the item of a ref.
func wantRef(r api.Ref) string {
	switch r.Kind {
	case api.RefHash:
		return str(string(r.Hash[:]))
	case api.RefNode:
		return string(r.Node)
	}
	return str("")
}

// wantEncoding tells the encoding of a node that may be.
func wantEncoding(n api.Node) string {
	switch n.Kind {
	case api.Leaf:
		return list(str(wantWay(n.Path, true)), str(string(n.Value)))
	case api.Extension:
		return list(str(wantWay(n.Path, false)), wantRef(n.Next))
	}
	var items []string
	for _, kid := range n.Kids {
		items = append(items, wantRef(kid))
	}
	return list(append(items, str(string(n.Value)))...)
}

// wantRight tells whether a ref is right.
func wantRight(r api.Ref) bool {
	blank := r.Hash == api.Hash{}
	switch r.Kind {
	case 0:
		return blank && len(r.Node) == 0
	case 1:
		return len(r.Node) == 0
	case 2:
		_, ok := wantNode(string(r.Node))
		return blank && len(r.Node) < 32 && ok
	}
	return false
}

// wantMayBe tells whether a node may be.
func wantMayBe(n api.Node) bool {
	things := 0
	for _, kid := range n.Kids {
		if !wantRight(kid) {
			return false
		}
		if kid.Kind != 0 {
			things++
		}
	}
	for _, nibble := range n.Path {
		if nibble > 15 {
			return false
		}
	}
	if !wantRight(n.Next) || len(n.Path) > 64 || len(n.Value) > 256 {
		return false
	}
	switch n.Kind {
	case 1:
		return len(n.Value) >= 1 && !n.Full && things == 0 && n.Next.Kind == 0
	case 2:
		if next, _ := wantNode(string(n.Next.Node)); n.Next.Kind == 2 && next.Kind != 3 {
			return false
		}
		return len(n.Value) == 0 && !n.Full && things == 0 && n.Next.Kind != 0 && len(n.Path) >= 1
	case 3:
		if n.Full {
			things++
		}
		return len(n.Path) == 0 && n.Next.Kind == 0 && n.Full == (len(n.Value) > 0) && things >= 2
	}
	return false
}

// piece is an item as it stands in bytes: whether it is a list, all of it, and what is behind its head.
type piece struct {
	list      bool
	all, body string
}

// pieces reads items one behind the other to the end, loosely.
func pieces(s string) ([]piece, bool) {
	var out []piece
	for len(s) > 0 {
		c := int(s[0])
		begin, n := 1, 0
		switch {
		case c < 0x80:
			begin, n = 0, 1
		case c%64 < 56:
			n = c % 64
		default:
			begin = 1 + c%64 - 55
			if begin > len(s) {
				return nil, false
			}
			for _, b := range []byte(s[1:begin]) {
				n = min(n*256+int(b), 1<<30)
			}
		}
		if begin+n > len(s) {
			return nil, false
		}
		out = append(out, piece{c >= 0xc0, s[:begin+n], s[begin : begin+n]})
		s = s[begin+n:]
	}
	return out, true
}

// looseRef tells the ref of an item: what is none is left to be found by writing it again.
func looseRef(p piece) api.Ref {
	switch {
	case p.list:
		return api.Ref{Kind: api.RefNode, Node: []byte(p.all)}
	case len(p.body) == 32:
		return api.Ref{Kind: api.RefHash, Hash: api.Hash([]byte(p.body))}
	}
	return api.Ref{}
}

// loosePath tells the nibbles of a path and whether it ends at a leaf, likewise.
func loosePath(p piece) ([]byte, bool) {
	if len(p.body) == 0 || p.body[0] >= 64 {
		return nil, false
	}
	var nibbles []byte
	for _, digit := range hex.EncodeToString([]byte(p.body)) {
		nibbles = append(nibbles, byte(strings.IndexRune("0123456789abcdef", digit)))
	}
	return nibbles[2-nibbles[0]%2:], nibbles[0] >= 2
}

// wantNode tells the node of which bytes are the encoding, and whether there is one.
func wantNode(s string) (api.Node, bool) {
	outer, ok := pieces(s)
	if !ok || len(outer) != 1 || !outer[0].list {
		return api.Node{}, false
	}
	items, ok := pieces(outer[0].body)
	if !ok {
		return api.Node{}, false
	}
	var n api.Node
	switch len(items) {
	case 2:
		n.Kind = api.Extension
		var leaf bool
		if n.Path, leaf = loosePath(items[0]); leaf {
			n.Kind, n.Value = api.Leaf, []byte(items[1].body)
		} else {
			n.Next = looseRef(items[1])
		}
	case 17:
		n.Kind, n.Value = api.Branch, []byte(items[16].body)
		n.Full = len(n.Value) > 0
		for i := range n.Kids {
			n.Kids[i] = looseRef(items[i])
		}
	default:
		return api.Node{}, false
	}
	if !wantMayBe(n) || wantEncoding(n) != s {
		return api.Node{}, false
	}
	return n, true
}

// wantHashes tells the hashes of a node.
func wantHashes(n api.Node) []api.Hash {
	var out []api.Hash
	for _, r := range append([]api.Ref{n.Next}, n.Kids[:]...) {
		if r.Kind == api.RefHash {
			out = append(out, r.Hash)
		}
	}
	return out
}

// same tells whether two nodes are one, where nil and empty lists are.
func same(a, b api.Node) bool {
	for i := range a.Kids {
		if !sameRef(a.Kids[i], b.Kids[i]) {
			return false
		}
	}
	return a.Kind == b.Kind && bytes.Equal(a.Path, b.Path) && bytes.Equal(a.Value, b.Value) && a.Full == b.Full && sameRef(a.Next, b.Next)
}

// sameRef tells whether two refs are one, likewise.
func sameRef(a, b api.Ref) bool {
	return a.Kind == b.Kind && a.Hash == b.Hash && bytes.Equal(a.Node, b.Node)
}

// plain tells a node in which no empty list is nil and none has spare room.
func plain(n api.Node) api.Node {
	n.Path, n.Value = append([]byte{}, n.Path...), append([]byte{}, n.Value...)
	n.Next.Node = append([]byte{}, n.Next.Node...)
	for i := range n.Kids {
		n.Kids[i].Node = append([]byte{}, n.Kids[i].Node...)
	}
	return n
}

// sameHashes tells whether two lists of hashes are one.
func sameHashes(a, b []api.Hash) bool { return slices.Equal(a, b) }

// checkNode holds Check and Encode of a node, and what leads back, against the model; it tells whether the node may be.
func checkNode(t *testing.T, what string, n api.Node) bool {
	t.Helper()
	may := wantMayBe(n)
	e := node.Check(n)
	b, f := node.Encode(n)
	if !may {
		if e != api.ErrShape {
			t.Errorf("7.1: %s: Check = %d, not ErrShape: %s", what, e, tell(n))
		}
		if f != api.ErrShape || len(b) != 0 {
			t.Errorf("7.2: %s: Encode = %x, %d, not no bytes, ErrShape: %s", what, b, f, tell(n))
		}
		return false
	}
	want := wantEncoding(n)
	if e != api.OK {
		t.Errorf("7.1: %s: Check = %d, not OK: %s", what, e, tell(n))
	}
	if f != api.OK || string(b) != want {
		t.Errorf("7.2: %s: Encode = %x, %d, not %x, 0: %s", what, b, f, want, tell(n))
	}
	if len(b) > api.MaxNode {
		t.Errorf("Nodes: %s: an encoding of %d bytes", what, len(b))
	}
	if back, g := node.Decode(b); g != api.OK || !same(back, n) {
		t.Errorf("7.7: %s: Decode(Encode(n)) = %s, %d, not %s", what, tell(back), g, tell(n))
	}
	return true
}

// checkBytes holds Decode and Hashes of bytes, and what leads back, against the model; it tells whether the bytes are an encoding.
func checkBytes(t *testing.T, what string, b []byte) bool {
	t.Helper()
	want, ok := wantNode(string(b))
	n, e := node.Decode(b)
	hashes, f := node.Hashes(b)
	if !ok {
		if e != api.ErrShape || !same(n, api.Node{}) {
			t.Errorf("7.3: %s: Decode(%x) = %s, %d, not the zero node, ErrShape", what, b, tell(n), e)
		}
		if f != api.ErrShape || len(hashes) != 0 {
			t.Errorf("7.6: %s: Hashes(%x) = %x, %d, not none, ErrShape", what, b, hashes, f)
		}
		return false
	}
	if e != api.OK || !same(n, want) {
		t.Errorf("7.3: %s: Decode(%x) = %s, %d, not %s, 0", what, b, tell(n), e, tell(want))
	}
	if f != api.OK || !sameHashes(hashes, wantHashes(want)) {
		t.Errorf("7.6: %s: Hashes(%x) = %x, %d, not %x, 0", what, b, hashes, f, wantHashes(want))
	}
	if again, g := node.Encode(n); g != api.OK || !bytes.Equal(again, b) {
		t.Errorf("7.7: %s: Encode(Decode(%x)) = %x, %d", what, b, again, g)
	}
	return true
}

// tell tells a node as a short text.
func tell(n api.Node) string {
	text := "{kind " + string(rune('0'+n.Kind%10)) + " path " + hex.EncodeToString(n.Path) + " value " + hex.EncodeToString(n.Value)
	if n.Full {
		text += " full"
	}
	for i, r := range append([]api.Ref{n.Next}, n.Kids[:]...) {
		if r.Kind != 0 || len(r.Node) > 0 || r.Hash != (api.Hash{}) {
			text += " ref" + string(rune('a'+i)) + ":" + string(rune('0'+r.Kind%10)) + hex.EncodeToString(r.Node) + "/" + hex.EncodeToString(r.Hash[:4])
		}
	}
	return text + "}"
}

// unhex tells the bytes of a hexadecimal text in which blanks don't count.
func unhex(s string) string {
	b, err := hex.DecodeString(strings.ReplaceAll(s, " ", ""))
	if err != nil {
		panic(err)
	}
	return string(b)
}

// somePath tells so many nibbles that differ from place to place.
func somePath(length int) []byte {
	nibbles := make([]byte, length)
	for i := range nibbles {
		nibbles[i] = byte((7*i + 5) % 16)
	}
	return nibbles
}

// someBytes tells so many bytes that differ from place to place.
func someBytes(length int) []byte {
	b := make([]byte, length)
	for i := range b {
		b[i] = byte(97 + 31*i)
	}
	return b
}

// someHash tells a hash that is another one for each number.
func someHash(i int) api.Hash {
	var h api.Hash
	for k := range h {
		h[k] = byte(i + k*k)
	}
	return h
}

func leaf(path, value []byte) api.Node {
	return api.Node{Kind: api.Leaf, Path: path, Value: value}
}

func extension(path []byte, next api.Ref) api.Node {
	return api.Node{Kind: api.Extension, Path: path, Next: next}
}

// branch tells a branch with kids by their numbers; it is Full, if it has a value.
func branch(value []byte, kids map[int]api.Ref) api.Node {
	n := api.Node{Kind: api.Branch, Value: value, Full: len(value) > 0}
	for i, kid := range kids {
		n.Kids[i] = kid
	}
	return n
}

func none() api.Ref { return api.Ref{} }

func hashed(i int) api.Ref { return api.Ref{Kind: api.RefHash, Hash: someHash(i)} }

// whole tells the ref of a node that stands whole, whether it may or not.
func whole(n api.Node) api.Ref {
	return api.Ref{Kind: api.RefNode, Node: []byte(wantEncoding(n))}
}

// raw tells the ref of bytes that stand whole, whatever they are.
func raw(s string) api.Ref { return api.Ref{Kind: api.RefNode, Node: []byte(s)} }

// shortLeaf tells a whole leaf of 3 bytes.
func shortLeaf(value byte) api.Ref { return whole(leaf(nil, []byte{value})) }

// branchOf tells a branch whose encoding has so many bytes, 22 or more and below 56.
func branchOf(size int) api.Node {
	if size == 22 {
		return branch(nil, map[int]api.Ref{1: shortLeaf('a'), 2: shortLeaf('b')})
	}
	if size == 23 {
		return branch(nil, map[int]api.Ref{1: shortLeaf('a'), 2: whole(leaf(nil, []byte{200}))})
	}
	return branch(nil, map[int]api.Ref{1: whole(leaf(nil, someBytes(size-22))), 2: shortLeaf('b')})
}

// leafOf tells a leaf whose encoding has so many bytes, 5 or more and below 56.
func leafOf(size int) api.Node { return leaf(nil, someBytes(size-3)) }

// extensionOf tells an extension over a whole branch whose encoding has so many bytes, 24 or more and below 56.
func extensionOf(size int) api.Node { return extension([]byte{7}, whole(branchOf(size-2))) }

// someNodes tells nodes of all kinds and of many shapes, all of which may be.
func someNodes() []api.Node {
	all := map[int]api.Ref{}
	for i := range 16 {
		all[i] = hashed(i)
	}
	out := []api.Node{
		leaf(nil, []byte{1}), leaf(nil, []byte{0}), leaf(nil, []byte{128}), leaf([]byte{1, 2, 3, 4}, []byte("x")), leaf([]byte{15}, []byte("xyz")),
		leaf(somePath(64), someBytes(256)), leaf(somePath(63), someBytes(55)), leaf(somePath(1), someBytes(56)), leafOf(31), leafOf(32),
		extension([]byte{7}, hashed(1)), extension(somePath(64), hashed(0)), extension(somePath(2), api.Ref{Kind: api.RefHash}),
		extensionOf(24), extensionOf(31), extensionOf(32), extension(somePath(64), whole(branchOf(31))),
		branchOf(22), branchOf(31), branchOf(32), branch(someBytes(256), all), branch(nil, all), branch([]byte{0}, map[int]api.Ref{15: hashed(3)}),
		branch(nil, map[int]api.Ref{0: hashed(1), 3: shortLeaf('a'), 4: hashed(2), 5: hashed(1)}),
		branch([]byte("v"), map[int]api.Ref{0: whole(extensionOf(24)), 7: whole(branchOf(31)), 15: whole(leafOf(31))}),
	}
	for i := range 16 {
		out = append(out, branch([]byte{byte(100 + 3*i)}, map[int]api.Ref{i: hashed(i)}))
		out = append(out, branch(nil, map[int]api.Ref{i: shortLeaf('a'), (i + 5) % 16: hashed(i)}))
	}
	return out
}

// randomBytes tells from least to most bytes, small ones as often as great ones.
func randomBytes(random *rand.Rand, least, most int) []byte {
	b := make([]byte, least+random.Intn(most-least+1))
	random.Read(b)
	if len(b) == 1 && random.Intn(2) == 0 {
		b[0] %= 128
	}
	return b
}

// randomPath tells from least to most nibbles.
func randomPath(random *rand.Rand, least, most int) []byte {
	b := make([]byte, least+random.Intn(most-least+1))
	for i := range b {
		b[i] = byte(random.Intn(16))
	}
	return b
}

// randomRef tells a ref that is right, a whole node as often as it is short enough.
func randomRef(random *rand.Rand, kinds ...int) api.Ref {
	if random.Intn(3) > 0 {
		n := randomNode(random, kinds[random.Intn(len(kinds))], true)
		if r := whole(n); len(r.Node) < 32 {
			return r
		}
	}
	return hashed(random.Intn(8))
}

// randomNode tells a node of a kind that may be; a small one is likely to stand whole.
func randomNode(random *rand.Rand, kind int, small bool) api.Node {
	longest, greatest, kids := 64, 256, 16
	if small {
		longest, greatest, kids = 8, 9, 2
	}
	switch kind {
	case api.Leaf:
		return leaf(randomPath(random, 0, longest), randomBytes(random, 1, greatest))
	case api.Extension:
		return extension(randomPath(random, 1, longest), randomRef(random, api.Branch))
	}
	n := api.Node{Kind: api.Branch}
	if n.Full = random.Intn(2) == 0; n.Full {
		n.Value = randomBytes(random, 1, greatest)
	}
	for _, i := range random.Perm(16)[:2+random.Intn(kids-1)] {
		if n.Kids[i] = shortLeaf(byte(random.Intn(128))); !small {
			n.Kids[i] = randomRef(random, api.Leaf, api.Extension, api.Branch)
		}
	}
	return n
}
