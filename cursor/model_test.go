package cursor_test

import (
	"crypto/sha256"
	"fmt"
	"slices"
	"strings"

	"cairn/api"
	"cairn/node"
)

// Nodes are written down here by themselves: an item is a text of its form's bytes, a path and a place a text of hexadecimal digits.

// item is the form of a string of bytes; no length here needs more than two bytes.
func item(s string) string {
	if len(s) == 1 && s[0] < 128 {
		return s
	}
	return head(128, len(s)) + s
}

// list is the form of a list of items.
func list(items ...string) string {
	all := strings.Join(items, "")
	return head(192, len(all)) + all
}

func head(base, size int) string {
	switch {
	case size < 56:
		return string([]byte{byte(base + size)})
	case size < 256:
		return string([]byte{byte(base + 56), byte(size)})
	}
	return string([]byte{byte(base + 57), byte(size / 256), byte(size % 256)})
}

// packed is a path in its bytes.
func packed(path string, flag int) string {
	if len(path)%2 == 1 {
		path = fmt.Sprintf("%x", flag+1) + path
	} else {
		path = fmt.Sprintf("%x0", flag) + path
	}
	return unhex(path)
}

func unhex(text string) string {
	var b []byte
	if _, err := fmt.Sscanf(text, "%x", &b); err != nil && text != "" {
		panic(text)
	}
	return string(b)
}

func leaf(path, value string) string { return list(item(packed(path, 2)), item(value)) }
func ext(path, ref string) string    { return list(item(packed(path, 0)), ref) }

// kid is how a node stands in a branch, and where.
type kid struct {
	way int
	ref string
}

func branch(value string, kids ...kid) string {
	items := make([]string, 17)
	for i := range items {
		items[i] = item("")
	}
	for _, k := range kids {
		items[k.way] = k.ref
	}
	items[16] = item(value)
	return list(items...)
}

// long is a value with which no leaf stands whole.
const long = "a value that is longer than thirty-one bytes"

// hashOf is the published hash of a string, of which the first bits count.
func hashOf(bits int, s string) api.Hash {
	h := api.Hash(sha256.Sum256([]byte(s)))
	for i := bits; i < 256; i++ {
		h[i/8] &^= 128 >> (i % 8)
	}
	return h
}

// digits tells nibbles as a text.
func digits(nibbles []byte) string {
	out := ""
	for _, x := range nibbles {
		out += fmt.Sprintf("%x", x)
	}
	return out
}

// bounds are those of a walk, by keys.
type bounds struct {
	from, to string
	open     bool
}

func from(key string) bounds        { return bounds{from: key, open: true} }
func within(from, to string) bounds { return bounds{from: from, to: to} }

func (b bounds) String() string {
	if b.open {
		return fmt.Sprintf("from %x to %x, open", b.from, b.to)
	}
	return fmt.Sprintf("from %x to %x", b.from, b.to)
}

// has tells whether a key lies within.
func (b bounds) has(key string) bool {
	return b.from <= key && (b.open || key < b.to)
}

// pair is an entry.
type pair struct{ key, value string }

// course is all that is to be seen of a walk.
type course struct {
	met     []pair
	asked   []api.Hash
	e       api.Errno
	stopped bool // at the entry at which it was to stop, which is the last of those it met
}

// pending is what a walk has still to come by: an entry at its place, or a ref.
type pending struct {
	place string
	entry bool
	value string
	ref   api.Ref
	least int // bytes, if it stands by its hash
	a     int // the kind that it must have, if not 0
}

// walker is the chapter written down a second time: no node is gone down into and come back from; all that has not been
// come by lies in one heap, out of which the walk takes what stands first in the order of places.
type walker struct {
	bits int
	src  *shelf
	heap []pending
	out  course
}

// take takes the first of the heap, or the last.
func (w *walker) take(back bool) pending {
	slices.SortFunc(w.heap, func(a, b pending) int { return strings.Compare(a.place, b.place) })
	i := 0
	if back {
		i = len(w.heap) - 1
	}
	p := w.heap[i]
	w.heap = slices.Delete(w.heap, i, i+1)
	return p
}

// had tells the node of a ref: what is asked for is written down.
func (w *walker) had(p pending) (api.Node, api.Errno) {
	b := string(p.ref.Node)
	if p.ref.Kind == 1 {
		w.out.asked = append(w.out.asked, p.ref.Hash)
		told, e := w.src.tells(p.ref.Hash)
		if e != 0 {
			return api.Node{}, e
		}
		if hashOf(w.bits, told) != p.ref.Hash || len(told) < p.least {
			return api.Node{}, 5
		}
		b = told
	}
	n, e := node.Decode([]byte(b))
	if e != 0 || p.a != 0 && n.Kind != p.a {
		return api.Node{}, 5
	}
	return n, 0
}

// open lays what stands in a node on the heap.
func (w *walker) open(p pending, n api.Node) api.Errno {
	end := p.place + digits(n.Path)
	valued := n.Kind == 1 || n.Kind == 3 && n.Full
	if len(end) > 64 || valued && len(end)%2 == 1 {
		return 5
	}
	if valued {
		w.heap = append(w.heap, pending{place: end, entry: true, value: string(n.Value)})
	}
	if n.Kind == 2 {
		w.heap = append(w.heap, pending{place: end, ref: n.Next, least: 32, a: 3})
	}
	for i, r := range n.Kids {
		if r.Kind != 0 {
			w.heap = append(w.heap, pending{place: fmt.Sprintf("%s%x", end, i), ref: r, least: 32})
		}
	}
	return 0
}

// walk tells the course of a walk that is to stop at the entry of a number.
func walk(bits int, src *shelf, root api.Hash, b bounds, back bool, stop int) course {
	w := &walker{bits: bits, src: src}
	if root != hashOf(bits, "\x80") {
		w.heap = []pending{{ref: api.Ref{Kind: 1, Hash: root}}}
	}
	low, high := fmt.Sprintf("%x", b.from), fmt.Sprintf("%x", b.to)
	for len(w.heap) > 0 {
		p := w.take(back)
		if p.entry {
			if key := unhex(p.place); b.has(key) {
				w.out.met = append(w.out.met, pair{key, p.value})
			}
			if len(w.out.met) == stop {
				w.out.stopped = true
				return w.out
			}
			continue
		}
		if p.place < low && !strings.HasPrefix(low, p.place) || !b.open && p.place >= high {
			continue
		}
		n, e := w.had(p)
		if e == 0 {
			e = w.open(p, n)
		}
		if e != 0 {
			w.out.met, w.out.e = nil, e
			return w.out
		}
	}
	return w.out
}

// scan tells what 13.4 says of a scan.
func scan(bits int, src *shelf, root api.Hash, b bounds, limit int) (entries []pair, more bool, asked []api.Hash, e api.Errno) {
	if len(b.from) > 32 || len(b.to) > 32 || b.open && b.to != "" || limit < 0 {
		return nil, false, nil, 2
	}
	stop := limit + 1
	if stop < limit { // no trie has so many
		stop = limit
	}
	c := walk(bits, src, root, b, false, stop)
	if c.stopped {
		return c.met[:limit], true, c.asked, 0
	}
	return c.met, false, c.asked, c.e
}
