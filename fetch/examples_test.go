package fetch_test

import (
	"testing"

	"cairn/api"
	"cairn/fetch"
)

// The chapter's examples, by their numbers.

// twoLeaves is the trie of a branch, the root, over two leaves that stand by their hashes, p below q.
func twoLeaves(t *testing.T) (m trie, p, q api.Hash) {
	m = trieOf(t, newBook(t, 256), map[string]string{"\x12": long, "\x23": long + "!"})
	var leaves []api.Hash
	for _, h := range m.keys {
		if h != m.root {
			leaves = append(leaves, h)
		}
	}
	if len(leaves) != 2 {
		t.Fatalf("another trie, of %d nodes", len(m.keys))
	}
	return m, leaves[0], leaves[1]
}

func TestExample1(t *testing.T) {
	m, _, _ := twoLeaves(t)
	if f, e := fetch.New(nil, m.root); f != nil || e != api.ErrHandle {
		t.Errorf("example 1: %v, %d", f, e)
	}
	w := begin(t, 256, emptyRoot(256))
	w.is("example 1", 0)
	if !w.f.Done() || len(w.f.Wants(5)) != 0 || w.f.Len() != 0 {
		t.Errorf("example 1: of the empty trie something is wanted")
	}
}

func TestExample2(t *testing.T) {
	m, p, q := twoLeaves(t)
	w := begin(t, 256, m.root)
	w.is("example 2", 0, m.root)
	w.supplies("example 2: the root", m.nodes[m.root], api.OK, 1, p, q)
	if got := w.f.Wants(1); len(got) != 1 || got[0] != p {
		t.Errorf("example 2: Wants(1) = %x", got)
	}
	if got := w.f.Wants(9); len(got) != 2 || got[0] != p || got[1] != q {
		t.Errorf("example 2: Wants(9) = %x", got)
	}
	w.supplies("example 2: the root again", m.nodes[m.root], api.ErrUnwanted, 1, p, q)
	w.supplies("example 2: nothing", "", api.ErrInput, 1, p, q)
	w.supplies("example 2: nobody wants it", "\x01\x02\x03", api.ErrUnwanted, 1, p, q)
	w.supplies("example 2: p", m.nodes[p], api.OK, 2, q)
	w.supplies("example 2: q", m.nodes[q], api.OK, 3)
}

func TestExample3(t *testing.T) {
	m, p, q := twoLeaves(t)
	begin(t, 256, m.root, m.nodes[q], m.nodes[m.root], "rubbish").is("example 3", 2, p)
	w := begin(t, 256, m.root, m.nodes[q])
	w.is("example 3: q alone", 0, m.root)
	w.supplies("example 3: the root", m.nodes[m.root], api.OK, 2, p)
	w.has("example 3", q, m.nodes[q])
}

func TestExample4(t *testing.T) {
	m, _, _ := twoLeaves(t)
	w := begin(t, 256, m.root)
	w.lacks("example 4", m.root)
	w.supply(m.nodes[m.root])
	w.has("example 4", m.root, m.nodes[m.root])
}
