package proof_test

import (
	"crypto/sha256"
	"fmt"
	"slices"
	"strings"

	"cairn/api"
)

// Proofs and nodes are written down here by themselves: an item is a text of its form's bytes, a path and a place a text of
// hexadecimal digits.

// item is the form of a string of bytes.
func item(s string) string {
	if len(s) == 1 && s[0] < 128 {
		return s
	}
	return head(128, len(s)) + s
}

// list is the form of a list of items.
func list(items ...string) string {
	all := strings.Join(items, "")
	return head(192, len(all)) + all
}

// listOf is the form of a list of strings.
func listOf(l ...string) string {
	var all strings.Builder
	for _, s := range l {
		all.WriteString(item(s))
	}
	return list(all.String())
}

func head(base, size int) string {
	switch {
	case size < 56:
		return string([]byte{byte(base + size)})
	case size < 256:
		return string([]byte{byte(base + 56), byte(size)})
	case size < 65536:
		return string([]byte{byte(base + 57), byte(size / 256), byte(size % 256)})
	}
	return string([]byte{byte(base + 58), byte(size / 65536), byte(size / 256 % 256), byte(size % 256)})
}

// mayBePacked is 15.1's condition.
func mayBePacked(l []string) bool {
	return !slices.ContainsFunc(l, func(s string) bool { return len(s) < 1 || len(s) > 1024 }) && len(listOf(l...)) <= 131072
}

// unpacked is 15.2 written down a second time: the bytes are read as if nothing could be wrong with them, and are a proof, if
// they are what the strings that come out are packed to.
func unpacked(b string) ([]string, bool) {
	var out []string
	_, rest := cutHead(b)
	for rest != "" {
		size, behind := cutHead(rest)
		size = min(size, len(behind))
		out = append(out, behind[:size])
		rest = behind[size:]
	}
	return out, mayBePacked(out) && listOf(out...) == b
}

// cutHead tells how long the item is at whose form bytes begin, and the bytes behind its head, if it has one.
func cutHead(b string) (int, string) {
	if b == "" {
		return 0, ""
	}
	c := int(b[0])
	switch {
	case c < 128:
		return 1, b
	case c >= 192:
		c -= 64
	}
	if c < 128+56 {
		return c - 128, b[1:]
	}
	k := min(c-128-55, len(b)-1)
	size := 0
	for _, digit := range []byte(b[1 : 1+k]) {
		size = min(size*256+int(digit), 1<<30)
	}
	return size, b[1+k:]
}

// packedPath is a path in its bytes.
func packedPath(path string, flag int) string {
	if len(path)%2 == 1 {
		path = fmt.Sprintf("%x", flag+1) + path
	} else {
		path = fmt.Sprintf("%x0", flag) + path
	}
	return unhex(path)
}

func unhex(text string) string {
	var b []byte
	if _, err := fmt.Sscanf(text, "%x", &b); err != nil && text != "" {
		panic(text)
	}
	return string(b)
}

func leaf(path, value string) string { return list(item(packedPath(path, 2)), item(value)) }
func ext(path, ref string) string    { return list(item(packedPath(path, 0)), ref) }

// kid is how a node stands in a branch, and where.
type kid struct {
	way int
	ref string
}

func branch(value string, kids ...kid) string {
	items := make([]string, 17)
	for i := range items {
		items[i] = item("")
	}
	for _, k := range kids {
		items[k.way] = k.ref
	}
	items[16] = item(value)
	return list(items...)
}

// long is a value with which no leaf stands whole.
const long = "a value that is longer than thirty-one bytes"

// sibling is what stands beside the way in branches that have nothing else.
const sibling = "\xc2\x20\x73"

// deep is a way of 64 nibbles.
const deep = "0123456789abcdeffedcba98765432100f1e2d3c4b5a69788796a5b4c3d2e1f0"

// hashOf is the published hash of a string, of which the first bits count.
func hashOf(bits int, s string) api.Hash {
	h := api.Hash(sha256.Sum256([]byte(s)))
	for i := bits; i < 256; i++ {
		h[i/8] &^= 128 >> (i % 8)
	}
	return h
}

// spot is a node that is read, and the digits from the root on at whose end it stands.
type spot struct{ place, encoding string }

// trie is a map's trie: its root, and its nodes that stand by their hashes, the root's too.
type trie struct {
	bits  int
	root  api.Hash
	spots []spot
}

// plant tells the trie of a map (chapter 14).
func plant(bits int, entries map[string]string) *trie {
	m := &trie{bits: bits, root: hashOf(bits, "\x80")}
	if len(entries) == 0 {
		return m
	}
	inDigits := map[string]string{}
	for k, v := range entries {
		inDigits[fmt.Sprintf("%x", k)] = v
	}
	top := m.part("", inDigits)
	m.spots = append(m.spots, spot{"", top})
	m.root = hashOf(bits, top)
	return m
}

// part tells the encoding of the node of entries, whose keys are told in digits behind a place.
func (m *trie) part(place string, entries map[string]string) string {
	var keys []string
	for k := range entries {
		keys = append(keys, k)
	}
	first, last := slices.Min(keys), slices.Max(keys)
	if len(keys) == 1 {
		return leaf(first, entries[first])
	}
	common := first[:commonLength(first, last)]
	if common != "" {
		return ext(common, m.below(place+common, behind(entries, common)))
	}
	var kids []kid
	for i := range 16 {
		digit := fmt.Sprintf("%x", i)
		if some := behind(entries, digit); len(some) > 0 {
			kids = append(kids, kid{i, m.below(place+digit, some)})
		}
	}
	return branch(entries[""], kids...)
}

// below tells how the node of entries stands in the one above it.
func (m *trie) below(place string, entries map[string]string) string {
	encoding := m.part(place, entries)
	if len(encoding) < 32 {
		return encoding
	}
	m.spots = append(m.spots, spot{place, encoding})
	h := hashOf(m.bits, encoding)
	return item(string(h[:]))
}

func commonLength(a, b string) int {
	n := 0
	for n < min(len(a), len(b)) && a[n] == b[n] {
		n++
	}
	return n
}

// behind tells the entries whose keys begin so, with that taken off.
func behind(entries map[string]string, path string) map[string]string {
	out := map[string]string{}
	for k, v := range entries {
		if rest, begins := strings.CutPrefix(k, path); begins {
			out[rest] = v
		}
	}
	return out
}

// trail is what is read on a key's way, without any going down: the nodes at whose places its digits come by.
func (m *trie) trail(key string) []string {
	digits := fmt.Sprintf("%x", key)
	return m.at(func(place string) bool { return strings.HasPrefix(digits, place) })
}

// shared is what is read on the ways of two keys alike.
func (m *trie) shared(a, b string) []string {
	a, b = fmt.Sprintf("%x", a), fmt.Sprintf("%x", b)
	return m.at(func(place string) bool { return strings.HasPrefix(a, place) && strings.HasPrefix(b, place) })
}

// at tells the nodes at some places of one way, from the root on.
func (m *trie) at(on func(place string) bool) []string {
	var some []spot
	for _, s := range m.spots {
		if on(s.place) {
			some = append(some, s)
		}
	}
	slices.SortFunc(some, func(a, b spot) int { return len(a.place) - len(b.place) })
	var out []string
	for _, s := range some {
		out = append(out, s.encoding)
	}
	return out
}
