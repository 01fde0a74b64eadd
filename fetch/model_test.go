package fetch_test

import (
	"crypto/sha256"
	"slices"
	"strings"

	"cairn/api"
	"cairn/node"
)

// The model is the chapter written down a second time, with the published hash instead of a book: lists that are looked through from
// end to end, and what is in have is looked through anew again and again.

// hashOf is the published hash of a string, of which the first bits count.
func hashOf(bits int, s string) api.Hash {
	h := api.Hash(sha256.Sum256([]byte(s)))
	for i := bits; i < 256; i++ {
		h[i/8] &^= 128 >> (i % 8)
	}
	return h
}

// emptyRoot is the root of the empty trie.
func emptyRoot(bits int) api.Hash { return hashOf(bits, "\x80") }

// rising is hashes by their bytes.
func rising(hashes []api.Hash) []api.Hash {
	out := slices.Clone(hashes)
	slices.SortFunc(out, func(a, b api.Hash) int { return strings.Compare(string(a[:]), string(b[:])) })
	return out
}

// piece is a node that was taken, with its hash.
type piece struct {
	hash api.Hash
	data string
}

type model struct {
	bits   int
	have   []string
	wanted []api.Hash
	taken  []piece
}

// begun is P25.2.
func begun(bits int, root api.Hash, have []string) *model {
	m := &model{bits: bits, have: slices.Clone(have)}
	if root != emptyRoot(bits) {
		m.wanted = append(m.wanted, root)
	}
	m.settle()
	return m
}

// settle takes of have whatever is wanted, from its beginning on, till nothing of it is.
func (m *model) settle() {
	for again := true; again; {
		again = false
		for _, b := range m.have {
			if len(b) >= 1 && len(b) <= 1024 && m.wants1(b) && m.take(b) {
				again = true
				break
			}
		}
	}
}

// wants1 tells whether a string's hash is wanted.
func (m *model) wants1(b string) bool { return slices.Contains(m.wanted, hashOf(m.bits, b)) }

// take is P25.1; it tells whether it was a node.
func (m *model) take(b string) bool {
	below, e := node.Hashes([]byte(b))
	if e != 0 {
		return false
	}
	h := hashOf(m.bits, b)
	m.wanted = slices.DeleteFunc(m.wanted, func(x api.Hash) bool { return x == h })
	m.taken = append(m.taken, piece{h, b})
	for _, x := range below {
		if _, e := m.node(x); e != 0 && !slices.Contains(m.wanted, x) {
			m.wanted = append(m.wanted, x)
		}
	}
	return true
}

// supply is P25.3.
func (m *model) supply(b string) api.Errno {
	if len(b) < 1 || len(b) > 1024 {
		return 2
	}
	if !m.wants1(b) {
		return 220
	}
	if !m.take(b) {
		return 70
	}
	m.settle()
	return 0
}

// wants is P25.4.
func (m *model) wants(n int) []api.Hash {
	if n < 1 {
		return nil
	}
	return rising(m.wanted)[:min(n, len(m.wanted))]
}

// node is P25.4.
func (m *model) node(h api.Hash) (string, api.Errno) {
	for _, p := range m.taken {
		if p.hash == h {
			return p.data, 0
		}
	}
	return "", 5
}
