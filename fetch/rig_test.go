package fetch_test

import (
	"fmt"
	"slices"
	"strings"
	"testing"

	"cairn/api"
	"cairn/digest"
	"cairn/fetch"
	"cairn/node"
	"cairn/shape"
)

func rounds(most int) int {
	if testing.Short() {
		return most / 10
	}
	return most
}

// long is a value with which no leaf stands whole.
const long = "a value that is longer than thirty-one bytes"

// Nodes are texts of their encodings here, paths texts of hexadecimal digits.

func encoded(n api.Node) string {
	b, e := node.Encode(n)
	if e != api.OK {
		panic(fmt.Sprintf("no node: %+v", n))
	}
	return string(b)
}

func nibbles(digits string) []byte {
	var out []byte
	for _, x := range digits {
		out = append(out, byte(strings.IndexRune("0123456789abcdef", x)))
	}
	return out
}

func leaf(path, value string) string {
	return encoded(api.Node{Kind: api.Leaf, Path: nibbles(path), Value: []byte(value)})
}

func byHash(h api.Hash) api.Ref { return api.Ref{Kind: api.RefHash, Hash: h} }

func ext(path string, next api.Hash) string {
	return encoded(api.Node{Kind: api.Extension, Path: nibbles(path), Next: byHash(next)})
}

// branch is one with a value whose first kids stand by these hashes.
func branch(value string, kids ...api.Hash) string {
	n := api.Node{Kind: api.Branch, Full: value != "", Value: []byte(value)}
	for i, h := range kids {
		n.Kids[i] = byHash(h)
	}
	return encoded(n)
}

// noNodes are blobs that are no nodes, though they are nearly ones.
func noNodes() []string {
	l, b := leaf("123", long), branch("v", key(1), key(2))
	return []string{
		"\x00", "\xc0", "\xff", "a", "no node at all", l[1:], l[:len(l)-1], l + "\x00", l + l, b[:40], b + "\x80",
		string(append([]byte{b[0], b[1] + 1}, b[2:]...)), strings.Repeat("\xc0", 33), strings.Repeat("x", api.MaxNode),
	}
}

// noBlobs are too short or too long to be blobs.
func noBlobs() []string {
	l := leaf("123", long)
	return []string{"", strings.Repeat("x", api.MaxNode+1), l + strings.Repeat("\x00", api.MaxNode), strings.Repeat("\x80", 5000)}
}

// valued is a value of a number's own, with which no leaf stands whole.
func valued(i int) string { return fmt.Sprint(long, i) }

// forged tells a string that has a hash of few bits, by trying numbers.
func forged(bits int, h api.Hash, make func(i int) string) string {
	for i := range 1 << 17 {
		if b := make(i); hashOf(bits, b) == h {
			return b
		}
	}
	panic("no string has this hash")
}

// key is a hash that no node has, by its first byte.
func key(x byte) api.Hash { return api.Hash{x, 30: 1} }

// whole tells bytes with their spare room.
func whole(b []byte) string { return string(b[:cap(b)]) }

// fill writes one byte all over bytes and their spare room.
func fill(b []byte, x byte) {
	b = b[:cap(b)]
	for i := range b {
		b[i] = x
	}
}

// roomy tells a copy of bytes whose spare room is filled with marks.
func roomy(s string) []byte {
	return append([]byte(s), 7, 201, 0, 32, 255, 16, 9, 204)[:len(s)]
}

func newBook(t *testing.T, bits int) *digest.Book {
	t.Helper()
	book, e := digest.New(bits, 256, make([]byte, 32))
	if e != api.OK {
		t.Fatalf("a book of %d bits: %d", bits, e)
	}
	return book
}

// hasHashed tells whether a book has hashed a string.
func hasHashed(book *digest.Book, s string) bool {
	was, _ := book.Len()
	book.Hash([]byte(s))
	now, _ := book.Len()
	return now == was
}

// trie is a map's trie.
type trie struct {
	root  api.Hash
	keys  []api.Hash // of the nodes that stand by their hashes, rising
	nodes map[api.Hash]string
}

// trieOf tells the trie of a map, by a book.
func trieOf(t *testing.T, book *digest.Book, entries map[string]string) trie {
	t.Helper()
	var l []api.Entry
	for k, v := range entries {
		l = append(l, api.Entry{Key: []byte(k), Value: []byte(v)})
	}
	l = shape.Sort(l)
	root, e := shape.Root(book, l)
	blobs, f := shape.Nodes(book, l)
	if e != api.OK || f != api.OK {
		t.Fatalf("14.5, 14.6: %d, %d", e, f)
	}
	m := trie{root: root, nodes: map[api.Hash]string{}}
	for _, b := range blobs {
		if _, there := m.nodes[b.Key]; !there {
			m.keys = append(m.keys, b.Key)
		}
		m.nodes[b.Key] = string(b.Data)
	}
	return m
}

// texts tells a trie's nodes, by their hashes rising.
func (m trie) texts() []string {
	var out []string
	for _, h := range m.keys {
		out = append(out, m.nodes[h])
	}
	return out
}

// tour is a fetch, and the model's beside it: whatever is done, all that can be seen of the one is held against the other.
type tour struct {
	t     *testing.T
	bits  int
	book  *digest.Book
	f     *fetch.Fetch
	m     *model
	known []api.Hash // all that was ever spoken of
	story []string
}

// begin begins a fetch with a book of its own. What is handed in has spare room; it is looked at, and spoiled then: whoever has
// kept it loses it.
func begin(t *testing.T, bits int, root api.Hash, have ...string) *tour {
	t.Helper()
	return beginWith(t, bits, newBook(t, bits), root, have...)
}

func beginWith(t *testing.T, bits int, book *digest.Book, root api.Hash, have ...string) *tour {
	t.Helper()
	w := &tour{t: t, bits: bits, book: book, m: begun(bits, root, have), known: []api.Hash{root, {}, key(1)}}
	w.tell("New(%.4x) with %d in have", root, len(have))
	in := make([][]byte, len(have), len(have)+1)
	was := make([]string, len(have))
	for i, b := range have {
		in[i] = roomy(b)
		was[i] = whole(in[i])
		w.meet(b)
	}
	var e api.Errno
	if w.f, e = fetch.New(book, root, in...); w.f == nil || e != api.OK {
		w.fails("P25.2: New answers %d", e)
	}
	for i := range in {
		if whole(in[i]) != was[i] {
			w.fails("R3: a string of have is changed")
		}
		fill(in[i], 0x66)
	}
	if in[:cap(in)][len(have)] != nil {
		w.fails("R3: the spare room of have is changed")
	}
	clear(in)
	w.look()
	return w
}

func (w *tour) tell(format string, what ...any) {
	w.story = append(w.story, fmt.Sprintf(format, what...))
}

// fails ends the test.
func (w *tour) fails(format string, what ...any) {
	w.t.Helper()
	tale := strings.Join(w.story[max(0, len(w.story)-30):], ", ")
	w.t.Fatalf("%s\nbehind %s", fmt.Sprintf(format, what...), tale)
}

// meet notes the hash of a string, and the hashes to which it leads.
func (w *tour) meet(b string) {
	below, _ := node.Hashes([]byte(b))
	for _, h := range append(below, hashOf(w.bits, b)) {
		if !slices.Contains(w.known, h) {
			w.known = append(w.known, h)
		}
	}
}

// supply supplies.
func (w *tour) supply(b string) api.Errno {
	w.t.Helper()
	w.tell("Supply(%.6x, %d bytes)", b, len(b))
	w.meet(b)
	in := roomy(b)
	was := whole(in)
	e := w.f.Supply(in)
	if whole(in) != was {
		w.fails("R3: what was handed in is changed")
	}
	fill(in, 0x66)
	if want := w.m.supply(b); e != want {
		w.fails("P25.3: Supply answers %d, not %d", e, want)
	}
	w.look()
	return e
}

// look holds all that can be seen against the model. What is handed out is spoiled then: whoever hands out what it keeps loses it.
func (w *tour) look() {
	w.t.Helper()
	n := len(w.m.wanted)
	for _, n := range []int{n - 1, n, n + 1, 1, 0, 1 << 40, -1} {
		got := w.f.Wants(n)
		if want := w.m.wants(n); !slices.Equal(got, want) {
			w.fails("P25.4: Wants(%d) answers %.4x, not %.4x", n, got, want)
		}
		clear(got[:cap(got)])
	}
	if got := w.f.Done(); got != (n == 0) {
		w.fails("P25.4: Done() answers %v with %d wanted", got, n)
	}
	if got := w.f.Len(); got != len(w.m.taken) {
		w.fails("P25.4: Len() answers %d, not %d", got, len(w.m.taken))
	}
	for _, h := range w.known {
		got, e := w.f.Node(h)
		if want, f := w.m.node(h); string(got) != want || e != f || e != api.OK && got != nil {
			w.fails("P25.4: Node(%.4x) answers %.8x, %d, not %.8x, %d", h, got, e, want, f)
		}
		fill(got, 0x77)
	}
	if _, coded := w.book.Len(); coded != 0 {
		w.fails("R7: %d bodies were coded", coded)
	}
}

// supplies supplies, and holds the answer, what is wanted then and how many are taken against what the test names.
func (w *tour) supplies(promise, b string, e api.Errno, taken int, wants ...api.Hash) {
	w.t.Helper()
	if got := w.supply(b); got != e {
		w.fails("%s: Supply answers %d, not %d", promise, got, e)
	}
	w.is(promise, taken, wants...)
}

// is holds what is wanted and how many are taken against what the test names.
func (w *tour) is(promise string, taken int, wants ...api.Hash) {
	w.t.Helper()
	if got := w.f.Wants(1 << 20); !slices.Equal(got, rising(wants)) || w.f.Done() != (len(wants) == 0) || w.f.Len() != taken {
		w.fails("%s: %d are taken, %.4x are wanted, not %d, %.4x", promise, w.f.Len(), got, taken, rising(wants))
	}
}

// has holds the bytes that were taken under a hash against what the test names.
func (w *tour) has(promise string, h api.Hash, want string) {
	w.t.Helper()
	if got, e := w.f.Node(h); e != api.OK || string(got) != want {
		w.fails("%s: Node(%.4x) answers %.8x, %d, not %.8x", promise, h, got, e, want)
	}
}

// lacks looks that nothing was taken under a hash.
func (w *tour) lacks(promise string, h api.Hash) {
	w.t.Helper()
	if got, e := w.f.Node(h); e != api.ErrNode || got != nil {
		w.fails("%s: Node(%.4x) answers %.8x, %d", promise, h, got, e)
	}
}
