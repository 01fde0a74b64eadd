package span_test

import (
	"crypto/sha256"
	"fmt"
	"slices"
	"strings"

	"cairn/api"
	"cairn/node"
	"cairn/proof"
)

// Proofs and nodes are written down here by themselves: an item is a text of its form's bytes, a path and a place a text of
// hexadecimal digits.

// item is the form of a string of bytes.
func item(s string) string {
	if len(s) == 1 && s[0] < 128 {
		return s
	}
	return head(128, len(s)) + s
}

// list is the form of a list of items.
func list(items ...string) string {
	all := strings.Join(items, "")
	return head(192, len(all)) + all
}

// listOf is the form of a list of strings: of a proof, if they are of lengths that may be.
func listOf(l ...string) string {
	var all strings.Builder
	for _, s := range l {
		all.WriteString(item(s))
	}
	return list(all.String())
}

func head(base, size int) string {
	switch {
	case size < 56:
		return string([]byte{byte(base + size)})
	case size < 256:
		return string([]byte{byte(base + 56), byte(size)})
	case size < 65536:
		return string([]byte{byte(base + 57), byte(size / 256), byte(size % 256)})
	}
	return string([]byte{byte(base + 58), byte(size / 65536), byte(size / 256 % 256), byte(size % 256)})
}

// packedPath is a path in its bytes.
func packedPath(path string, flag int) string {
	if len(path)%2 == 1 {
		path = fmt.Sprintf("%x", flag+1) + path
	} else {
		path = fmt.Sprintf("%x0", flag) + path
	}
	return unhex(path)
}

func unhex(text string) string {
	var b []byte
	if _, err := fmt.Sscanf(text, "%x", &b); err != nil && text != "" {
		panic(text)
	}
	return string(b)
}

func leaf(path, value string) string { return list(item(packedPath(path, 2)), item(value)) }
func ext(path, ref string) string    { return list(item(packedPath(path, 0)), ref) }

// kid is how a node stands in a branch, and where.
type kid struct {
	way int
	ref string
}

func branch(value string, kids ...kid) string {
	items := make([]string, 17)
	for i := range items {
		items[i] = item("")
	}
	for _, k := range kids {
		items[k.way] = k.ref
	}
	items[16] = item(value)
	return list(items...)
}

// long is a value with which no leaf stands whole.
const long = "a value that is longer than thirty-one bytes"

// deep is a way of 64 nibbles, and of some more for what lies beyond.
const deep = "0123456789abcdeffedcba98765432100f1e2d3c4b5a69788796a5b4c3d2e1f0" + "123456789abcdef0123456789abcdef0123456789abcdef0123456789abcdef01234567"

// hashOf is the published hash of a string, of which the first bits count.
func hashOf(bits int, s string) api.Hash {
	h := api.Hash(sha256.Sum256([]byte(s)))
	for i := bits; i < 256; i++ {
		h[i/8] &^= 128 >> (i % 8)
	}
	return h
}

// emptyRoot is the root of the empty trie.
func emptyRoot(bits int) api.Hash { return hashOf(bits, "\x80") }

// refTo is how a node stands by its hash in another one, however short it is.
func refTo(bits int, encoding string) string {
	h := hashOf(bits, encoding)
	return item(string(h[:]))
}

// bounds are those of a range, by keys.
type bounds struct {
	from, to string
	open     bool
}

func from(key string) bounds        { return bounds{from: key, open: true} }
func within(from, to string) bounds { return bounds{from: from, to: to} }

func (b bounds) String() string {
	if b.open {
		return fmt.Sprintf("from %x to %x, open", b.from, b.to)
	}
	return fmt.Sprintf("from %x to %x", b.from, b.to)
}

// mayBe tells whether they are no ErrInput.
func (b bounds) mayBe() bool {
	return len(b.from) <= 32 && len(b.to) <= 32 && (!b.open || b.to == "")
}

// has tells whether a key lies within.
func (b bounds) has(key string) bool {
	return b.from <= key && (b.open || key < b.to)
}

// leads tells whether a key within can begin with a place.
func (b bounds) leads(place string) bool {
	low, high := fmt.Sprintf("%x", b.from), fmt.Sprintf("%x", b.to)
	if place < low && !strings.HasPrefix(low, place) {
		return false
	}
	return b.open || place < high
}

// pair is an entry.
type pair struct{ key, value string }

// pending is what a walk has still to come by: an entry at its place, or a ref.
type pending struct {
	place string
	entry bool
	value string
	ref   api.Ref
	least int // bytes, if it stands by its hash
	a     int // the kind that it must have, if not 0
}

// walker is 17.1 written down a second time: no node is gone down into and come back from; all that has not been come by lies in
// one heap, out of which the walk takes what stands first in the order of places.
type walker struct {
	told func(h api.Hash, least int) (string, api.Errno)
	heap []pending
}

// take takes the first of the heap.
func (w *walker) take() pending {
	first := 0
	for i, p := range w.heap {
		if p.place < w.heap[first].place {
			first = i
		}
	}
	p := w.heap[first]
	w.heap = slices.Delete(w.heap, first, first+1)
	return p
}

// open lays what stands in the node of a ref on the heap.
func (w *walker) open(p pending) api.Errno {
	b := string(p.ref.Node)
	if p.ref.Kind == 1 {
		told, e := w.told(p.ref.Hash, p.least)
		if e != 0 {
			return e
		}
		b = told
	}
	n, e := node.Decode([]byte(b))
	end := p.place
	for _, x := range n.Path {
		end += fmt.Sprintf("%x", x)
	}
	valued := n.Kind == 1 || n.Kind == 3 && n.Full
	if e != 0 || p.a != 0 && n.Kind != p.a || len(end) > 64 || valued && len(end)%2 == 1 {
		return 5
	}
	if valued {
		w.heap = append(w.heap, pending{place: end, entry: true, value: string(n.Value)})
	}
	if n.Kind == 2 {
		w.heap = append(w.heap, pending{place: end, ref: n.Next, least: 32, a: 3})
	}
	for i, r := range n.Kids {
		if r.Kind != 0 {
			w.heap = append(w.heap, pending{place: fmt.Sprintf("%s%x", end, i), ref: r, least: 32})
		}
	}
	return 0
}

// walk tells the entries that a walk meets within bounds, or the error at which it ends.
func walk(bits int, root api.Hash, b bounds, told func(h api.Hash, least int) (string, api.Errno)) ([]pair, api.Errno) {
	w := &walker{told: told}
	if root != emptyRoot(bits) {
		w.heap = []pending{{ref: api.Ref{Kind: 1, Hash: root}}}
	}
	var met []pair
	for len(w.heap) > 0 {
		p := w.take()
		if p.entry {
			if key := unhex(p.place); b.has(key) {
				met = append(met, pair{key, p.value})
			}
			continue
		}
		if !b.leads(p.place) {
			continue
		}
		if e := w.open(p); e != 0 {
			return nil, e
		}
	}
	return met, 0
}

// isNode tells whether bytes are what is to be read under a hash.
func isNode(bits int, h api.Hash, least int, b string) bool {
	if hashOf(bits, b) != h || len(b) < least {
		return false
	}
	_, e := node.Decode([]byte(b))
	return e == 0
}

// made is all that is to be seen of 17.2.
type made struct {
	proof string
	asked []api.Hash
	e     api.Errno
}

// makeProof is 17.2 written down a second time.
func makeProof(bits int, src *shelf, root api.Hash, b bounds) made {
	if !b.mayBe() {
		return made{e: 2}
	}
	var m made
	var strs []string
	size := 0
	_, m.e = walk(bits, root, b, func(h api.Hash, least int) (string, api.Errno) {
		m.asked = append(m.asked, h)
		told, e := src.tells(h)
		if e != 0 {
			return "", e
		}
		if !isNode(bits, h, least, told) {
			return "", 5
		}
		size += len(item(told))
		if size+len(head(192, size)) > 131072 {
			return "", 6
		}
		strs = append(strs, told)
		return told, 0
	})
	if m.e == 0 {
		m.proof = listOf(strs...)
	}
	return m
}

// verdict is what a proof proves.
type verdict struct {
	entries []pair
	e       api.Errno
}

func (v verdict) String() string {
	keys := []string{}
	for _, x := range v.entries {
		keys = append(keys, x.key)
	}
	return fmt.Sprintf("{%.200x (%d entries), error %d}", keys, len(keys), v.e)
}

func (v verdict) is(w verdict) bool { return slices.Equal(v.entries, w.entries) && v.e == w.e }

// proofless is the verdict over bytes that do not prove.
var proofless = verdict{e: 160}

// judge is 17.3 written down a second time.
func judge(bits int, root api.Hash, b bounds, bytes string) verdict {
	if !b.mayBe() {
		return verdict{e: 2}
	}
	left, e := proof.Unpack([]byte(bytes))
	if e != 0 {
		return proofless
	}
	entries, e := walk(bits, root, b, func(h api.Hash, least int) (string, api.Errno) {
		if len(left) == 0 || !isNode(bits, h, least, string(left[0])) {
			return "", 160
		}
		next := string(left[0])
		left = left[1:]
		return next, 0
	})
	if e != 0 || len(left) > 0 {
		return proofless
	}
	return verdict{entries: entries}
}

// spot is a node that stands by its hash, and the digits from the root on at whose end it stands.
type spot struct{ place, encoding string }

// trie is a map's trie: its root, and its nodes that stand by their hashes, the root's too, in the order of their places.
type trie struct {
	bits    int
	root    api.Hash
	spots   []spot
	entries map[string]string
}

// plant tells the trie of a map (chapter 14).
func plant(bits int, entries map[string]string) *trie {
	m := &trie{bits: bits, root: emptyRoot(bits), entries: entries}
	if len(entries) == 0 {
		return m
	}
	inDigits := map[string]string{}
	for k, v := range entries {
		inDigits[fmt.Sprintf("%x", k)] = v
	}
	top := m.part("", inDigits)
	m.spots = append(m.spots, spot{"", top})
	m.root = hashOf(bits, top)
	slices.SortFunc(m.spots, func(a, b spot) int { return strings.Compare(a.place, b.place) })
	return m
}

// part tells the encoding of the node of entries, whose keys are told in digits behind a place.
func (m *trie) part(place string, entries map[string]string) string {
	var keys []string
	for k := range entries {
		keys = append(keys, k)
	}
	first, last := slices.Min(keys), slices.Max(keys)
	if len(keys) == 1 {
		return leaf(first, entries[first])
	}
	common := first[:commonLength(first, last)]
	if common != "" {
		return ext(common, m.below(place+common, behind(entries, common)))
	}
	var kids []kid
	for i := range 16 {
		digit := fmt.Sprintf("%x", i)
		if some := behind(entries, digit); len(some) > 0 {
			kids = append(kids, kid{i, m.below(place+digit, some)})
		}
	}
	return branch(entries[""], kids...)
}

// below tells how the node of entries stands in the one above it.
func (m *trie) below(place string, entries map[string]string) string {
	encoding := m.part(place, entries)
	if len(encoding) < 32 {
		return encoding
	}
	m.spots = append(m.spots, spot{place, encoding})
	return refTo(m.bits, encoding)
}

func commonLength(a, b string) int {
	n := 0
	for n < min(len(a), len(b)) && a[n] == b[n] {
		n++
	}
	return n
}

// behind tells the entries whose keys begin so, with that taken off.
func behind(entries map[string]string, path string) map[string]string {
	out := map[string]string{}
	for k, v := range entries {
		if rest, begins := strings.CutPrefix(k, path); begins {
			out[rest] = v
		}
	}
	return out
}

// shown is what a range's proof shows, without any going down: the nodes at whose places a key within can begin.
func (m *trie) shown(b bounds) []string {
	var out []string
	for _, s := range m.spots {
		if b.leads(s.place) {
			out = append(out, s.encoding)
		}
	}
	return out
}

// proof is the proof of a range.
func (m *trie) proof(b bounds) string { return listOf(m.shown(b)...) }

// has is what the map has within bounds.
func (m *trie) has(b bounds) verdict {
	var out []pair
	for k, v := range m.entries {
		if b.has(k) {
			out = append(out, pair{k, v})
		}
	}
	slices.SortFunc(out, func(x, y pair) int { return strings.Compare(x.key, y.key) })
	return verdict{entries: out}
}
