package shape

import (
	"cairn/api"
	"cairn/digest"
	"cairn/node"
)

// maker makes the nodes of parts, and keeps those that stand by their hashes, as often as they do.
type maker struct {
	book *digest.Book
	made []api.Blob
}

// root tells the root of the trie of a part. Its node stands by its hash, however short it is.
func (m *maker) root(p *part) api.Hash {
	if p == nil {
		return node.Empty(m.book)
	}
	encoding := m.encoding(p)
	h := m.book.Hash(encoding)
	m.keep(h, encoding)
	return h
}

// encoding tells the bytes of a part's upper node.
func (m *maker) encoding(p *part) []byte {
	if !p.fork {
		return encode(api.Node{Kind: api.Leaf, Path: p.path, Value: p.value})
	}
	branch := encode(m.branch(p))
	if len(p.path) == 0 {
		return branch
	}
	return encode(api.Node{Kind: api.Extension, Path: p.path, Next: m.stand(branch)})
}

// branch tells the branch of a part of several keys.
func (m *maker) branch(p *part) api.Node {
	n := api.Node{Kind: api.Branch, Full: len(p.value) > 0, Value: p.value}
	for way := range ways {
		if p.kids[way] != nil {
			n.Kids[way] = m.stand(m.encoding(p.kids[way]))
		}
	}
	return n
}

// stand tells how a node stands in the one above it.
func (m *maker) stand(encoding []byte) api.Ref {
	ref := node.Refer(m.book, encoding)
	if ref.Kind == api.RefHash {
		m.keep(ref.Hash, encoding)
	}
	return ref
}

func (m *maker) keep(h api.Hash, encoding []byte) {
	m.made = append(m.made, api.Blob{Key: h, Data: encoding})
}

// encode tells a node's bytes. Every node of a map's trie may be, so nothing can be refused.
func encode(n api.Node) []byte {
	encoding, _ := node.Encode(n)
	return encoding
}
