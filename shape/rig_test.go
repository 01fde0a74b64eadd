package shape_test

import (
	"fmt"
	"maps"
	"slices"
	"strings"
	"testing"

	"cairn/api"
	"cairn/digest"
	"cairn/shape"
)

// long is a value with which no leaf stands whole.
const long = "a value that is longer than thirty-one bytes"

// pair is an entry.
type pair struct{ key, value string }

// pairs tells entries out of hexadecimal keys and values in turn.
func pairs(l ...string) []pair {
	var out []pair
	for i := 0; i+1 < len(l); i += 2 {
		out = append(out, pair{unhex(l[i]), l[i+1]})
	}
	return out
}

// inOrder tells a map's entries.
func inOrder(entries map[string]string) []pair {
	var out []pair
	for _, key := range slices.Sorted(maps.Keys(entries)) {
		out = append(out, pair{key, entries[key]})
	}
	return out
}

// mapOf tells what keys have behind entries, one behind the other.
func mapOf(l []pair) map[string]string {
	out := map[string]string{}
	for _, p := range l {
		out[p.key] = p.value
	}
	return out
}

func put(key, value string) api.Change { return api.Change{Key: []byte(key), Value: []byte(value)} }
func gone(key string) api.Change       { return api.Change{Key: []byte(key), Gone: true} }

// changed tells a map behind changes.
func changed(entries map[string]string, changes []api.Change) map[string]string {
	out := maps.Clone(entries)
	for _, c := range changes {
		if c.Gone {
			delete(out, string(c.Key))
		} else {
			out[string(c.Key)] = string(c.Value)
		}
	}
	return out
}

// tell tells changes in short.
func tell(changes ...api.Change) string {
	out := ""
	for _, c := range changes {
		if c.Gone {
			out += fmt.Sprintf("[gone %x %.12q] ", c.Key, c.Value)
		} else {
			out += fmt.Sprintf("[put %x %.12q (%d bytes)] ", c.Key, c.Value, len(c.Value))
		}
	}
	return out
}

func newBook(t *testing.T, bits int) *digest.Book {
	t.Helper()
	book, e := digest.New(bits, 256, make([]byte, 32))
	if e != api.OK {
		t.Fatalf("a book of %d bits: %d", bits, e)
	}
	return book
}

// fill writes one byte all over bytes and their spare room.
func fill(b []byte, x byte) {
	b = b[:cap(b)]
	for i := range b {
		b[i] = x
	}
}

// roomy tells a copy of bytes whose spare room is filled with marks.
func roomy(s string) []byte {
	return append([]byte(s), 7, 201, 0, 32, 255, 16, 9, 204)[:len(s)]
}

// handed is what is handed in to a call: roomy copies in roomy lists.
type handed struct {
	entries []api.Entry
	changes []api.Change
	was     string
}

func handIn(l []pair, changes []api.Change) *handed {
	h := &handed{}
	for _, p := range append(slices.Clone(l), pair{"spare", "room"}, pair{"", "e"}) {
		h.entries = append(h.entries, api.Entry{Key: roomy(p.key), Value: roomy(p.value)})
	}
	for _, c := range append(slices.Clone(changes), put("spare", "room"), gone("spare")) {
		h.changes = append(h.changes, api.Change{Key: roomy(string(c.Key)), Value: roomy(string(c.Value)), Gone: c.Gone})
	}
	h.entries, h.changes = h.entries[:len(l)], h.changes[:len(changes)]
	h.was = h.tell()
	return h
}

// tell tells all that was handed in, spare room too.
func (h *handed) tell() string {
	var out strings.Builder
	for _, x := range h.entries[:cap(h.entries)] {
		fmt.Fprintf(&out, "%x %x %d %d ", x.Key[:cap(x.Key)], x.Value[:cap(x.Value)], len(x.Key), len(x.Value))
	}
	for _, c := range h.changes[:cap(h.changes)] {
		fmt.Fprintf(&out, "%x %x %d %d %v ", c.Key[:cap(c.Key)], c.Value[:cap(c.Value)], len(c.Key), len(c.Value), c.Gone)
	}
	return out.String()
}

// takeBack looks whether what was handed in is as it was, and spoils it: whoever has kept it loses it.
func (h *handed) takeBack(t *testing.T) {
	t.Helper()
	if h.tell() != h.was {
		t.Errorf("R3: what was handed in is changed")
	}
	for _, x := range h.entries[:cap(h.entries)] {
		fill(x.Key, 0x66)
		fill(x.Value, 0x66)
	}
	for _, c := range h.changes[:cap(h.changes)] {
		fill(c.Key, 0x66)
		fill(c.Value, 0x66)
	}
	clear(h.entries[:cap(h.entries)])
	clear(h.changes[:cap(h.changes)])
}

func told(entries []api.Entry) []pair {
	var out []pair
	for _, x := range entries {
		out = append(out, pair{string(x.Key), string(x.Value)})
	}
	return out
}

func sorted(t *testing.T, l []pair) []pair {
	t.Helper()
	h := handIn(l, nil)
	got := shape.Sort(h.entries)
	h.takeBack(t)
	return told(got)
}

func applied(t *testing.T, l []pair, changes []api.Change) ([]pair, api.Errno) {
	t.Helper()
	h := handIn(l, changes)
	got, e := shape.Apply(h.entries, h.changes)
	h.takeBack(t)
	return told(got), e
}

func rootOf(t *testing.T, book *digest.Book, l []pair) (api.Hash, api.Errno) {
	t.Helper()
	h := handIn(l, nil)
	got, e := shape.Root(book, h.entries)
	h.takeBack(t)
	return got, e
}

func nodesOf(t *testing.T, book *digest.Book, l []pair) ([]blob, api.Errno) {
	t.Helper()
	h := handIn(l, nil)
	got, e := shape.Nodes(book, h.entries)
	h.takeBack(t)
	var out []blob
	for _, b := range got {
		out = append(out, blob{string(b.Key[:]), string(b.Data)})
	}
	return out, e
}

func countOf(t *testing.T, l []pair) (census, api.Errno) {
	t.Helper()
	h := handIn(l, nil)
	var c census
	var e api.Errno
	c.leaves, c.extensions, c.branches, c.depth, e = shape.Count(h.entries)
	h.takeBack(t)
	return c, e
}

// holds asks all about the trie of a map, by a new book, and holds it against the model.
func holds(t *testing.T, promise string, bits int, entries map[string]string) trie {
	t.Helper()
	want := model(bits, entries)
	asks(t, promise, bits, newBook(t, bits), entries, want)
	return want
}

// asks asks all about the trie of a map, by any book of so many bits.
func asks(t *testing.T, promise string, bits int, book *digest.Book, entries map[string]string, want trie) {
	t.Helper()
	l := inOrder(entries)
	if root, e := rootOf(t, book, l); root != want.root || e != api.OK {
		t.Fatalf("%s, 14.5: the root of %.200q by %d bits is %x, %d, not %x", promise, l, bits, root, e, want.root)
	}
	if blobs, e := nodesOf(t, book, l); !slices.Equal(blobs, want.nodes()) || e != api.OK {
		t.Fatalf("%s, 14.6: the nodes of %.200q by %d bits are %.200x, %d, not %.200x", promise, l, bits, blobs, e, want.nodes())
	}
	if c, e := countOf(t, l); c != want.census || e != api.OK {
		t.Fatalf("%s, 14.7: the count of %.200q is %v, %d, not %v", promise, l, c, e, want.census)
	}
}

// is holds the trie of a map against its blobs, the root's first, and its count, both written out by hand.
func is(t *testing.T, promise string, entries []pair, c census, blobs ...string) {
	t.Helper()
	got := holds(t, promise, 256, mapOf(entries))
	if got.census != c {
		t.Errorf("%s, 14.7: %q: the count is %v, not %v", promise, entries, got.census, c)
	}
	var nodes []string
	for _, b := range got.nodes() {
		nodes = append(nodes, b.data)
	}
	if got.root != hashOf(256, blobs[0]) || !slices.Equal(slices.Sorted(slices.Values(nodes)), slices.Sorted(slices.Values(blobs))) {
		t.Errorf("%s, 14.4, 14.6: %q: the nodes are %x, not %x", promise, entries, nodes, blobs)
	}
}

// noMap asks all calls about entries that are no map's.
func noMap(t *testing.T, l []pair) {
	t.Helper()
	book := newBook(t, 256)
	if root, e := rootOf(t, book, l); root != (api.Hash{}) || e != api.ErrOrder {
		t.Errorf("14.1, 14.5: Root of %.100q: %x, %d", l, root, e)
	}
	if blobs, e := nodesOf(t, book, l); len(blobs) != 0 || e != api.ErrOrder {
		t.Errorf("14.1, 14.6: Nodes of %.100q: %x, %d", l, blobs, e)
	}
	if c, e := countOf(t, l); c != (census{}) || e != api.ErrOrder {
		t.Errorf("14.1, 14.7: Count of %.100q: %v, %d", l, c, e)
	}
	for _, changes := range [][]api.Change{nil, {put("k", "v")}, {put("k", "")}, {gone("k"), put(strings.Repeat("k", 33), "v")}} {
		if got, e := applied(t, l, changes); len(got) != 0 || e != api.ErrOrder {
			t.Errorf("14.1, 14.3: Apply of %.100q: %q, %d", l, got, e)
		}
	}
}
