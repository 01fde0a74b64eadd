package grow

import (
	"bytes"

	"cairn/api"
	"cairn/find"
	"cairn/node"
	"cairn/octet"
)

// batch is what one call does to a stage.
type batch struct {
	stage *Stage
	added []api.Hash // of the nodes that it staged and that did not stand there ahead of it
}

// reason is what a change panics with where it cannot go on.
type reason struct{ errno api.Errno }

func giveUp(e api.Errno) { panic(reason{e}) }

// reasonOf tells why a change gave up; any other panic is not this layer's, and goes on.
func reasonOf(caught any) api.Errno {
	r, ours := caught.(reason)
	if !ours {
		panic(caught)
	}
	return r.errno
}

// change does one change, and tells the root that comes out.
func (b *batch) change(root api.Hash, c api.Change) api.Hash {
	trail, e := find.Trail(b.stage, b.stage.book, root, c.Key)
	if e != api.OK {
		giveUp(e)
	}
	rest := octet.Nibbles(c.Key)
	w := way{batch: b, trail: trail, length: len(rest)}
	var top api.Node
	if len(trail) > 0 {
		top = w.next()
	}
	var changed bool
	if c.Gone {
		top, changed = w.remove(top, rest)
	} else {
		top, changed = w.put(top, rest, c.Value)
	}
	if !changed {
		return root
	}
	return b.root(top)
}

// root tells the root of the trie with this node at its top; that node stands by its hash, however short it is.
func (b *batch) root(top api.Node) api.Hash {
	if top.Kind == 0 {
		return node.Empty(b.stage.book)
	}
	encoding := encode(top)
	h := b.stage.book.Hash(encoding)
	b.add(h, encoding)
	return h
}

// stand tells how a node that came out stands in the one above it; no node stands as none.
func (b *batch) stand(n api.Node) api.Ref {
	if n.Kind == 0 {
		return api.Ref{}
	}
	encoding := encode(n)
	ref := node.Refer(b.stage.book, encoding)
	if ref.Kind == api.RefHash {
		b.add(ref.Hash, encoding)
	}
	return ref
}

// add stages an encoding. The empty trie's root is nobody else's: who met it would read nothing.
func (b *batch) add(h api.Hash, encoding []byte) {
	old, staged := b.stage.nodes[h]
	if staged && bytes.Equal(old, encoding) {
		return
	}
	if staged || h == node.Empty(b.stage.book) {
		giveUp(api.ErrClash)
	}
	b.stage.nodes[h] = encoding
	b.added = append(b.added, h)
}

// takeOff leaves the stage as it was ahead of the call.
func (b *batch) takeOff() {
	for _, h := range b.added {
		delete(b.stage.nodes, h)
	}
}

// encode tells a node's bytes.
func encode(n api.Node) []byte {
	encoding, e := node.Encode(n)
	if e != api.OK {
		giveUp(api.ErrNode)
	}
	return encoding
}

// decode tells the node of an encoding.
func decode(encoding []byte) api.Node {
	n, e := node.Decode(encoding)
	if e != api.OK {
		giveUp(api.ErrNode)
	}
	return n
}
