package extract_test

import (
	"crypto/sha256"
	"encoding/hex"
	"fmt"
	"slices"
	"strings"

	"cairn/api"
	"cairn/node"
	"cairn/proof"
)

// Proofs and nodes are written down here by themselves: an item is a text of its form's bytes, a path and a place a text of
// hexadecimal digits.

// item is the form of a string of bytes.
func item(s string) string {
	if len(s) == 1 && s[0] < 128 {
		return s
	}
	return head(128, len(s)) + s
}

// list is the form of a list of items.
func list(items ...string) string {
	all := strings.Join(items, "")
	return head(192, len(all)) + all
}

// listOf is the form of a list of strings: of a proof, if they are of lengths that may be.
func listOf(l ...string) string {
	var all strings.Builder
	for _, s := range l {
		all.WriteString(item(s))
	}
	return list(all.String())
}

func head(base, size int) string {
	switch {
	case size < 56:
		return string([]byte{byte(base + size)})
	case size < 256:
		return string([]byte{byte(base + 56), byte(size)})
	case size < 65536:
		return string([]byte{byte(base + 57), byte(size / 256), byte(size % 256)})
	}
	return string([]byte{byte(base + 58), byte(size / 65536), byte(size / 256 % 256), byte(size % 256)})
}

// packedPath is a path in its bytes.
func packedPath(path string, flag int) string {
	if len(path)%2 == 1 {
		return unhex(string(rune('0'+flag+1)) + path)
	}
	return unhex(string(rune('0'+flag)) + "0" + path)
}

func unhex(text string) string {
	b, err := hex.DecodeString(text)
	if err != nil {
		panic(text)
	}
	return string(b)
}

func leaf(path, value string) string { return list(item(packedPath(path, 2)), item(value)) }
func ext(path, ref string) string    { return list(item(packedPath(path, 0)), ref) }

// kid is how a node stands in a branch, and where.
type kid struct {
	way int
	ref string
}

func branch(value string, kids ...kid) string {
	items := make([]string, 17)
	for i := range items {
		items[i] = item("")
	}
	for _, k := range kids {
		items[k.way] = k.ref
	}
	items[16] = item(value)
	return list(items...)
}

// long is a value with which no leaf stands whole.
const long = "a value that is longer than thirty-one bytes"

// deep is a way of 64 nibbles, and of some more for what lies beyond.
const deep = "0123456789abcdeffedcba98765432100f1e2d3c4b5a69788796a5b4c3d2e1f0" + "123456789abcdef0123456789abcdef0123456789abcdef0123456789abcdef01234567"

// nothing is the string that stands where a trie is empty.
const nothing = "\x80"

// hashOf is the published hash of a string, of which the first bits count.
func hashOf(bits int, s string) api.Hash {
	h := api.Hash(sha256.Sum256([]byte(s)))
	whole := bits / 8
	if bits%8 > 0 {
		h[whole] &= 255 << (8 - bits%8)
		whole++
	}
	clear(h[whole:])
	return h
}

// emptyRoot is the root of the empty trie.
func emptyRoot(bits int) api.Hash { return hashOf(bits, nothing) }

// byHash is how a node of this hash stands in another one.
func byHash(h api.Hash) string { return item(string(h[:])) }

// refTo is how a node stands by its hash in another one, however short it is.
func refTo(bits int, encoding string) string { return byHash(hashOf(bits, encoding)) }

// bounds are those of a range, by keys.
type bounds struct {
	from, to string
	open     bool
}

func from(key string) bounds        { return bounds{from: key, open: true} }
func within(from, to string) bounds { return bounds{from: from, to: to} }

func (b bounds) String() string {
	if b.open {
		return fmt.Sprintf("from %x to %x, open", b.from, b.to)
	}
	return fmt.Sprintf("from %x to %x", b.from, b.to)
}

// mayBe tells whether they are no ErrInput.
func (b bounds) mayBe() bool {
	return len(b.from) <= 32 && len(b.to) <= 32 && (!b.open || b.to == "")
}

// has tells whether a key lies within.
func (b bounds) has(key string) bool {
	return b.from <= key && (b.open || key < b.to)
}

// leads tells whether a key within can begin with a place.
func (b bounds) leads(place string) bool {
	low, high := fmt.Sprintf("%x", b.from), fmt.Sprintf("%x", b.to)
	if place < low && !strings.HasPrefix(low, place) {
		return false
	}
	return b.open || place < high
}

// found is what a call answers.
type found struct {
	a, b string
	e    api.Errno
}

func (f found) String() string {
	return fmt.Sprintf("{%.40x (%d bytes), %.40x (%d bytes), error %d}", f.a, len(f.a), f.b, len(f.b), f.e)
}

// none is the answer where there is nothing to be found.
var none = found{e: 180}

// stone is chapter 18 written down a second time, over places. A key and bounds differ only in the places to which they lead: all
// refs that have not been come by lie in one heap, out of which the first is taken in the order of their places.
type stone struct {
	bits  int
	nodes []string
	leads func(place string) bool
	left  []string
	heap  []pending
}

// pending is a ref that has not been come by.
type pending struct {
	place string
	ref   api.Ref
	least int // bytes, if it stands by its hash
	a     int // the kind that it must have, if not 0
}

// askKey is what Key should answer.
func askKey(bits int, nodes []string, root api.Hash, key, bytes string) found {
	if len(key) > 32 {
		return found{e: 2}
	}
	digits := fmt.Sprintf("%x", key)
	s := &stone{bits: bits, nodes: nodes, leads: func(place string) bool { return strings.HasPrefix(digits, place) }}
	return s.ask(root, bytes)
}

// askSpan is what Span should answer.
func askSpan(bits int, nodes []string, root api.Hash, b bounds, bytes string) found {
	if !b.mayBe() {
		return found{e: 2}
	}
	s := &stone{bits: bits, nodes: nodes, leads: b.leads}
	return s.ask(root, bytes)
}

func (s *stone) ask(root api.Hash, bytes string) found {
	if f, clash := s.ownClash(); clash {
		return f
	}
	l, e := proof.Unpack([]byte(bytes))
	switch {
	case e != 0:
		return none
	case len(l) == 0 && hashOf(s.bits, nothing) == root:
		if m, is := s.mapString(root); is && m != nothing {
			return found{a: m, b: nothing}
		}
		return none
	}
	for _, x := range l {
		s.left = append(s.left, string(x))
	}
	s.heap = []pending{{ref: api.Ref{Kind: 1, Hash: root}}}
	for len(s.heap) > 0 {
		p := s.take()
		if !s.leads(p.place) {
			continue
		}
		if f, on := s.open(p); !on {
			return f
		}
	}
	return none
}

// ownClash looks at every two of the map's strings.
func (s *stone) ownClash() (found, bool) {
	all := append(slices.Clone(s.nodes), nothing)
	var hashes []api.Hash
	for k, b := range all {
		h := hashOf(s.bits, b)
		for i, a := range all[:k] {
			if a != b && hashes[i] == h {
				return found{a: a, b: b}, true
			}
		}
		hashes = append(hashes, h)
	}
	return found{}, false
}

// mapString is the map's string under a hash.
func (s *stone) mapString(h api.Hash) (string, bool) {
	for _, x := range append(slices.Clone(s.nodes), nothing) {
		if hashOf(s.bits, x) == h {
			return x, true
		}
	}
	return "", false
}

// take takes the first of the heap.
func (s *stone) take() pending {
	first := 0
	for i, p := range s.heap {
		if p.place < s.heap[first].place {
			first = i
		}
	}
	p := s.heap[first]
	s.heap = slices.Delete(s.heap, first, first+1)
	return p
}

// open lays the refs of a node that has been come by on the heap; if it doesn't come to that, it tells what was found.
func (s *stone) open(p pending) (found, bool) {
	b := string(p.ref.Node)
	if p.ref.Kind == 1 {
		if len(s.left) == 0 || hashOf(s.bits, s.left[0]) != p.ref.Hash {
			return none, false
		}
		b = s.left[0]
		s.left = s.left[1:]
		m, is := s.mapString(p.ref.Hash)
		switch {
		case !is:
			return none, false
		case m != b:
			return found{a: m, b: b}, false
		case len(b) < p.least:
			return none, false
		}
	}
	n, e := node.Decode([]byte(b))
	end := p.place
	for _, x := range n.Path {
		end += fmt.Sprintf("%x", x)
	}
	valued := n.Kind == 1 || n.Kind == 3 && n.Full
	if e != 0 || p.a != 0 && n.Kind != p.a || len(end) > 64 || valued && len(end)%2 == 1 {
		return none, false
	}
	if n.Kind == 2 {
		s.heap = append(s.heap, pending{place: end, ref: n.Next, least: 32, a: 3})
	}
	for i, r := range n.Kids {
		if r.Kind != 0 {
			s.heap = append(s.heap, pending{place: fmt.Sprintf("%s%x", end, i), ref: r, least: 32})
		}
	}
	return found{}, true
}

// spot is a node that stands by its hash, and the digits from the root on at whose end it stands.
type spot struct{ place, encoding string }

// trie is a map's trie: its root, and its nodes that stand by their hashes, the root's too, in the order of their places.
type trie struct {
	bits    int
	root    api.Hash
	spots   []spot
	entries map[string]string
}

// plant tells the trie of a map (chapter 14).
func plant(bits int, entries map[string]string) *trie {
	m := &trie{bits: bits, root: emptyRoot(bits), entries: entries}
	if len(entries) == 0 {
		return m
	}
	inDigits := map[string]string{}
	for k, v := range entries {
		inDigits[fmt.Sprintf("%x", k)] = v
	}
	top := m.part("", inDigits)
	m.spots = append(m.spots, spot{"", top})
	m.root = hashOf(bits, top)
	slices.SortFunc(m.spots, func(a, b spot) int { return strings.Compare(a.place, b.place) })
	return m
}

// part tells the encoding of the node of entries, whose keys are told in digits behind a place.
func (m *trie) part(place string, entries map[string]string) string {
	var keys []string
	for k := range entries {
		keys = append(keys, k)
	}
	first, last := slices.Min(keys), slices.Max(keys)
	if len(keys) == 1 {
		return leaf(first, entries[first])
	}
	common := first[:commonLength(first, last)]
	if common != "" {
		return ext(common, m.below(place+common, behind(entries, common)))
	}
	var kids []kid
	for i := range 16 {
		digit := fmt.Sprintf("%x", i)
		if some := behind(entries, digit); len(some) > 0 {
			kids = append(kids, kid{i, m.below(place+digit, some)})
		}
	}
	return branch(entries[""], kids...)
}

// below tells how the node of entries stands in the one above it.
func (m *trie) below(place string, entries map[string]string) string {
	encoding := m.part(place, entries)
	if len(encoding) < 32 {
		return encoding
	}
	m.spots = append(m.spots, spot{place, encoding})
	return refTo(m.bits, encoding)
}

func commonLength(a, b string) int {
	n := 0
	for n < min(len(a), len(b)) && a[n] == b[n] {
		n++
	}
	return n
}

// behind tells the entries whose keys begin so, with that taken off.
func behind(entries map[string]string, path string) map[string]string {
	out := map[string]string{}
	for k, v := range entries {
		if rest, begins := strings.CutPrefix(k, path); begins {
			out[rest] = v
		}
	}
	return out
}

// nodes are the map's strings, each once.
func (m *trie) nodes() []string {
	var out []string
	for _, s := range m.spots {
		if !slices.Contains(out, s.encoding) {
			out = append(out, s.encoding)
		}
	}
	return out
}

// shown is what a range's proof shows, without any going down: the nodes at whose places a key within can begin.
func (m *trie) shown(b bounds) []string {
	var out []string
	for _, s := range m.spots {
		if b.leads(s.place) {
			out = append(out, s.encoding)
		}
	}
	return out
}

// way is what a key's proof shows, likewise: the nodes whose places begin it.
func (m *trie) way(key string) []string {
	var out []string
	for _, s := range m.spots {
		if strings.HasPrefix(fmt.Sprintf("%x", key), s.place) {
			out = append(out, s.encoding)
		}
	}
	return out
}

// has is what the map has within bounds: keys and values, one behind the other.
func (m *trie) has(b bounds) []string {
	var keys, out []string
	for k := range m.entries {
		if b.has(k) {
			keys = append(keys, k)
		}
	}
	slices.Sort(keys)
	for _, k := range keys {
		out = append(out, k, m.entries[k])
	}
	return out
}
