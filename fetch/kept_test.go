package fetch

import (
	"testing"

	"cairn/api"
	"cairn/digest"
	"cairn/node"
)

// What is in have is kept as long as it may be wanted: no node of it is kept twice, and none where nothing is wanted any more.
func TestWhatIsKept(t *testing.T) {
	book, _ := digest.New(256, 256, make([]byte, 32))
	var have [][]byte
	var top api.Node
	top.Kind = api.Branch
	for i := range 3 {
		b, _ := node.Encode(api.Node{Kind: api.Leaf, Path: []byte{byte(i)}, Value: make([]byte, 40)})
		top.Kids[i] = api.Ref{Kind: api.RefHash, Hash: book.Hash(b)}
		have = append(have, b, b, []byte("rubbish"))
	}
	top.Kids[2] = api.Ref{}
	root, _ := node.Encode(top)
	for _, c := range []struct {
		name        string
		root        api.Hash
		have        [][]byte
		first, then int
	}{
		{"all of it, and one that nothing leads to", book.Hash(root), have, 3, 0},
		{"one, and one that nothing leads to", book.Hash(root), have[3:], 2, 1},
		{"nothing is wanted from the beginning on", node.Empty(book), have, 0, 0},
	} {
		f, _ := New(book, c.root, c.have...)
		if len(f.spare) != c.first {
			t.Errorf("%s: %d are kept, not %d", c.name, len(f.spare), c.first)
		}
		f.Supply(root)
		if len(f.spare) != c.then {
			t.Errorf("%s: %d are kept behind the root, not %d", c.name, len(f.spare), c.then)
		}
	}
}
