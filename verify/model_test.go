package verify_test

import (
	"crypto/sha256"
	"fmt"
	"slices"
	"strings"

	"cairn/api"
	"cairn/node"
	"cairn/proof"
)

// Proofs and nodes are written down here by themselves: an item is a text of its form's bytes, a path and a place a text of
// hexadecimal digits.

// item is the form of a string of bytes.
func item(s string) string {
	if len(s) == 1 && s[0] < 128 {
		return s
	}
	return head(128, len(s)) + s
}

// list is the form of a list of items.
func list(items ...string) string {
	all := strings.Join(items, "")
	return head(192, len(all)) + all
}

// listOf is the form of a list of strings: of a proof, if they are of lengths that may be.
func listOf(l ...string) string {
	var all strings.Builder
	for _, s := range l {
		all.WriteString(item(s))
	}
	return list(all.String())
}

func head(base, size int) string {
	switch {
	case size < 56:
		return string([]byte{byte(base + size)})
	case size < 256:
		return string([]byte{byte(base + 56), byte(size)})
	case size < 65536:
		return string([]byte{byte(base + 57), byte(size / 256), byte(size % 256)})
	}
	return string([]byte{byte(base + 58), byte(size / 65536), byte(size / 256 % 256), byte(size % 256)})
}

// packedPath is a path in its bytes.
func packedPath(path string, flag int) string {
	if len(path)%2 == 1 {
		path = fmt.Sprintf("%x", flag+1) + path
	} else {
		path = fmt.Sprintf("%x0", flag) + path
	}
	return unhex(path)
}

func unhex(text string) string {
	var b []byte
	if _, err := fmt.Sscanf(text, "%x", &b); err != nil && text != "" {
		panic(text)
	}
	return string(b)
}

func leaf(path, value string) string { return list(item(packedPath(path, 2)), item(value)) }
func ext(path, ref string) string    { return list(item(packedPath(path, 0)), ref) }

// kid is how a node stands in a branch, and where.
type kid struct {
	way int
	ref string
}

func branch(value string, kids ...kid) string {
	items := make([]string, 17)
	for i := range items {
		items[i] = item("")
	}
	for _, k := range kids {
		items[k.way] = k.ref
	}
	items[16] = item(value)
	return list(items...)
}

// long is a value with which no leaf stands whole.
const long = "a value that is longer than thirty-one bytes"

// sibling is what stands beside the way in branches that have nothing else.
const sibling = "\xc2\x20\x73"

// deep is a way of 64 nibbles, and of some more for what lies beyond.
const deep = "0123456789abcdeffedcba98765432100f1e2d3c4b5a69788796a5b4c3d2e1f0" + "123456789abcdef0123456789abcdef0123456789abcdef0123456789abcdef01234567"

// hashOf is the published hash of a string, of which the first bits count.
func hashOf(bits int, s string) api.Hash {
	h := api.Hash(sha256.Sum256([]byte(s)))
	for i := bits; i < 256; i++ {
		h[i/8] &^= 128 >> (i % 8)
	}
	return h
}

// emptyRoot is the root of the empty trie.
func emptyRoot(bits int) api.Hash { return hashOf(bits, "\x80") }

// refTo is how a node stands by its hash in another one, however short it is.
func refTo(bits int, encoding string) string {
	h := hashOf(bits, encoding)
	return item(string(h[:]))
}

// verdict is what a proof proves of a key.
type verdict struct {
	value string
	found bool
	e     api.Errno
}

func (v verdict) String() string {
	return fmt.Sprintf("{%.20q (%d bytes) %v, error %d}", v.value, len(v.value), v.found, v.e)
}

// proofless is the verdict over bytes that do not prove.
var proofless = verdict{e: 160}

// judge is 16.1 to 16.3 written down a second time.
func judge(bits int, root api.Hash, key, b string) verdict {
	if len(key) > 32 {
		return verdict{e: 2}
	}
	l, e := proof.Unpack([]byte(b))
	if e != api.OK {
		return proofless
	}
	s := &show{bits: bits, digits: fmt.Sprintf("%x", key)}
	for _, x := range l {
		s.left = append(s.left, string(x))
	}
	value, right := "", true
	if root != emptyRoot(bits) {
		value, right = s.under(root, "", 1, "123")
	}
	if !right || len(s.left) > 0 {
		return proofless
	}
	return verdict{value: value, found: value != ""}
}

// show is what a proof shows of a key, over places: texts of digits from the root on.
type show struct {
	bits   int
	digits string
	left   []string
}

// under is what is shown of a node that stands by its hash at a place, of so many bytes at least and of one of some kinds.
func (s *show) under(h api.Hash, place string, least int, kinds string) (string, bool) {
	if len(s.left) == 0 || hashOf(s.bits, s.left[0]) != h || len(s.left[0]) < least {
		return "", false
	}
	b := s.left[0]
	s.left = s.left[1:]
	return s.at(b, place, kinds)
}

// at is what is shown of a node at a place.
func (s *show) at(encoding, place, kinds string) (string, bool) {
	n, e := node.Decode([]byte(encoding))
	end := place
	for _, x := range n.Path {
		end += fmt.Sprintf("%x", x)
	}
	if e != api.OK || !strings.Contains(kinds, fmt.Sprint(n.Kind)) || len(end) > 64 || len(n.Value) > 0 && len(end)%2 == 1 {
		return "", false
	}
	switch {
	case s.digits == end:
		if n.Kind == api.Extension {
			return s.on(n.Next, end, "3")
		}
		return string(n.Value), true
	case n.Kind == api.Leaf || !strings.HasPrefix(s.digits, end):
		return "", true
	case n.Kind == api.Extension:
		return s.on(n.Next, end, "3")
	}
	digit := s.digits[len(end) : len(end)+1]
	return s.on(n.Kids[strings.Index("0123456789abcdef", digit)], end+digit, "123")
}

// on is what is shown of a ref at a place.
func (s *show) on(r api.Ref, place, kinds string) (string, bool) {
	switch r.Kind {
	case api.RefHash:
		return s.under(r.Hash, place, 32, kinds)
	case api.RefNode:
		return s.at(string(r.Node), place, kinds)
	}
	return "", true
}

// spot is a node that is read, and the digits from the root on at whose end it stands.
type spot struct{ place, encoding string }

// trie is a map's trie: its root, and its nodes that stand by their hashes, the root's too.
type trie struct {
	bits    int
	root    api.Hash
	spots   []spot
	entries map[string]string
}

// plant tells the trie of a map (chapter 14).
func plant(bits int, entries map[string]string) *trie {
	m := &trie{bits: bits, root: emptyRoot(bits), entries: entries}
	if len(entries) == 0 {
		return m
	}
	inDigits := map[string]string{}
	for k, v := range entries {
		inDigits[fmt.Sprintf("%x", k)] = v
	}
	top := m.part("", inDigits)
	m.spots = append(m.spots, spot{"", top})
	m.root = hashOf(bits, top)
	return m
}

// part tells the encoding of the node of entries, whose keys are told in digits behind a place.
func (m *trie) part(place string, entries map[string]string) string {
	var keys []string
	for k := range entries {
		keys = append(keys, k)
	}
	first, last := slices.Min(keys), slices.Max(keys)
	if len(keys) == 1 {
		return leaf(first, entries[first])
	}
	common := first[:commonLength(first, last)]
	if common != "" {
		return ext(common, m.below(place+common, behind(entries, common)))
	}
	var kids []kid
	for i := range 16 {
		digit := fmt.Sprintf("%x", i)
		if some := behind(entries, digit); len(some) > 0 {
			kids = append(kids, kid{i, m.below(place+digit, some)})
		}
	}
	return branch(entries[""], kids...)
}

// below tells how the node of entries stands in the one above it.
func (m *trie) below(place string, entries map[string]string) string {
	encoding := m.part(place, entries)
	if len(encoding) < 32 {
		return encoding
	}
	m.spots = append(m.spots, spot{place, encoding})
	return refTo(m.bits, encoding)
}

func commonLength(a, b string) int {
	n := 0
	for n < min(len(a), len(b)) && a[n] == b[n] {
		n++
	}
	return n
}

// behind tells the entries whose keys begin so, with that taken off.
func behind(entries map[string]string, path string) map[string]string {
	out := map[string]string{}
	for k, v := range entries {
		if rest, begins := strings.CutPrefix(k, path); begins {
			out[rest] = v
		}
	}
	return out
}

// trail is what a key's proof shows, without any going down: the nodes at whose places its digits come by.
func (m *trie) trail(key string) []string {
	digits := fmt.Sprintf("%x", key)
	var some []spot
	for _, s := range m.spots {
		if strings.HasPrefix(digits, s.place) {
			some = append(some, s)
		}
	}
	slices.SortFunc(some, func(a, b spot) int { return len(a.place) - len(b.place) })
	var out []string
	for _, s := range some {
		out = append(out, s.encoding)
	}
	return out
}

// proof is the proof of a key.
func (m *trie) proof(key string) string { return listOf(m.trail(key)...) }

// has is what the map has of a key.
func (m *trie) has(key string) verdict {
	value := m.entries[key]
	return verdict{value: value, found: value != ""}
}
