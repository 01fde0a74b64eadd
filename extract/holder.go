package extract

import (
	"bytes"

	"cairn/api"
	"cairn/digest"
	"cairn/node"
	"cairn/proof"
	"cairn/span"
)

// holder holds a proof's strings against a map's. It is a source, and the layers that make proofs read from it: so the strings are
// held against each other just where, and in just the order in which, those layers read nodes.
type holder struct {
	book *digest.Book
	mine *shelf
	left [][]byte // the proof's strings that have not been held
	pair api.Pair // behind ErrClash: the two that were met
}

// newHolder takes a proof's strings in hand. A proof of no strings counts as the one byte that the map, too, has under the empty
// trie's root: there is nothing to be found of it, as there is nothing of no strings.
func newHolder(book *digest.Book, mine *shelf, b []byte) (*holder, api.Errno) {
	strings, e := proof.Unpack(b)
	if e != api.OK {
		return nil, e
	}
	return &holder{book: book, mine: mine, left: strings}, api.OK
}

// Node tells the string under a hash, if both sides have the same; ErrClash, if each has one of its own.
func (h *holder) Node(hash api.Hash) ([]byte, api.Errno) {
	if len(h.left) == 0 {
		return nil, api.ErrNone
	}
	shown := h.left[0]
	h.left = h.left[1:]
	if h.book.Hash(shown) != hash {
		return nil, api.ErrNone
	}
	mine, there := h.mine.under(hash)
	if !there {
		return nil, api.ErrNone
	}
	if !bytes.Equal(mine, shown) {
		h.pair = pairOf(mine, shown)
		return nil, api.ErrClash
	}
	return shown, api.OK
}

// goDown holds what is read on a key's way, and tells the error at which that ends.
func (h *holder) goDown(root api.Hash, key []byte) api.Errno {
	if root == node.Empty(h.book) {
		return h.holdEmpty(root)
	}
	_, e := proof.Prove(h, h.book, root, key)
	return e
}

// goOver holds what is read on a walk within bounds, and tells the error at which that ends.
func (h *holder) goOver(root api.Hash, b api.Bounds) api.Errno {
	if !b.Open && len(b.To) == 0 { // no key is ahead of the empty one
		return api.OK
	}
	if root == node.Empty(h.book) {
		return h.holdEmpty(root)
	}
	_, e := span.Prove(h, h.book, root, b)
	return e
}

// holdEmpty holds what stands under the empty trie's root: the layers below read nothing there, but a proof may show another string.
func (h *holder) holdEmpty(root api.Hash) api.Errno {
	_, e := h.Node(root)
	return e
}
