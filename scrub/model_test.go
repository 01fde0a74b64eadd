package scrub_test

import (
	"crypto/sha256"
	"fmt"
	"slices"
	"strings"

	"cairn/api"
	"cairn/hstore"
	"cairn/node"
)

// Nodes are written down here by themselves: an item is a text of its form's bytes, a path a text of hexadecimal digits.

// item is the form of a string of bytes.
func item(s string) string {
	if len(s) == 1 && s[0] < 128 {
		return s
	}
	return head(128, len(s)) + s
}

// list is the form of a list of items.
func list(items ...string) string {
	all := strings.Join(items, "")
	return head(192, len(all)) + all
}

func head(base, size int) string {
	switch {
	case size < 56:
		return string([]byte{byte(base + size)})
	case size < 256:
		return string([]byte{byte(base + 56), byte(size)})
	}
	return string([]byte{byte(base + 57), byte(size / 256), byte(size % 256)})
}

// packed is a path in its bytes.
func packed(path string, flag int) string {
	if len(path)%2 == 1 {
		path = fmt.Sprintf("%x", flag+1) + path
	} else {
		path = fmt.Sprintf("%x0", flag) + path
	}
	return unhex(path)
}

func unhex(text string) string {
	var b []byte
	if _, err := fmt.Sscanf(text, "%x", &b); err != nil && text != "" {
		panic(text)
	}
	return string(b)
}

func leaf(path, value string) string { return list(item(packed(path, 2)), item(value)) }
func ext(path, ref string) string    { return list(item(packed(path, 0)), ref) }

// kid is how a node stands in a branch, and where.
type kid struct {
	way int
	ref string
}

func branch(value string, kids ...kid) string {
	items := make([]string, 17)
	for i := range items {
		items[i] = item("")
	}
	for _, k := range kids {
		items[k.way] = k.ref
	}
	items[16] = item(value)
	return list(items...)
}

// long is a value with which no leaf stands whole.
const long = "a value that is longer than thirty-one bytes"

// by is how a node stands by its hash in another one.
func by(h api.Hash) string { return item(string(h[:])) }

// hashOf is the published hash of a string, of which the first bits count.
func hashOf(bits int, s string) api.Hash {
	h := api.Hash(sha256.Sum256([]byte(s)))
	for i := bits; i < 256; i++ {
		h[i/8] &^= 128 >> (i % 8)
	}
	return h
}

// emptyRoot is the root of the empty trie.
func emptyRoot(bits int) api.Hash { return hashOf(bits, "\x80") }

// rising is hashes by their bytes, each as often as it stands there.
func rising(hashes []api.Hash) []api.Hash {
	out := slices.Clone(hashes)
	slices.SortFunc(out, func(a, b api.Hash) int { return strings.Compare(string(a[:]), string(b[:])) })
	return out
}

// The model is the chapter written down a second time, with the published hash instead of a book: a row is looked through from
// end to end, and nothing is struck off. It reads by a store of its own, as the chapter says, and notes what was bad.

// passModel is a pass.
type passModel struct {
	st   *hstore.Store
	row  []api.Hash
	seen int
	bad  []api.Hash
}

// begun is 22.1.
func begun(bits int, st *hstore.Store, root api.Hash) *passModel {
	m := &passModel{st: st}
	if root != emptyRoot(bits) {
		m.row = []api.Hash{root}
	}
	return m
}

// step is 22.2.
func (m *passModel) step(n int) (api.Pass, api.Errno) {
	if n < 1 || n > 4096 {
		return api.Pass{}, 2
	}
	for ; n > 0 && m.seen < len(m.row); n-- {
		h := m.row[m.seen]
		b, e := m.st.Fresh(h)
		if e == 3 {
			return api.Pass{}, 3
		}
		m.seen++
		below, none := node.Hashes(b)
		if e != 0 || none != 0 {
			m.bad = append(m.bad, h)
			continue
		}
		for _, h := range below {
			if !slices.Contains(m.row, h) {
				m.row = append(m.row, h)
			}
		}
	}
	return m.pass(), 0
}

// pass is 22.3.
func (m *passModel) pass() api.Pass {
	return api.Pass{Seen: m.seen, Bad: len(m.bad), Done: m.seen == len(m.row)}
}

// mended is 22.4.
func mended(st *hstore.Store, b []byte) api.Errno {
	if _, e := node.Decode(b); e != 0 {
		return 70
	}
	return st.Mend(b)
}
