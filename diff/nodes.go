package diff

import (
	"cairn/api"
	"cairn/digest"
	"cairn/node"
)

// deepest is the number of nibbles of the longest key.
const deepest = 2 * api.MaxKey

// leastHashed is the least number of bytes of a node that stands in another one by its hash.
const leastHashed = 32

// nodes are a source's, none of which is trusted.
type nodes struct {
	src  api.Source
	book *digest.Book
}

// root tells what a side has at the root's place; it is here alone that the empty trie's root stands for nothing.
func (ns nodes) root(h api.Hash) side {
	if h == node.Empty(ns.book) {
		return side{}
	}
	return side{ref: api.Ref{Kind: api.RefHash, Hash: h}}
}

// meet makes of a side's ref the node to which it leads, if that may stand behind so many nibbles; a side without a ref stays as it is.
func (ns nodes) meet(s side, place int) (side, api.Errno) {
	if s.ref.Kind == api.RefNone {
		return s, api.OK
	}
	encoding, e := ns.encoding(s)
	if e != api.OK {
		return side{}, e
	}
	n, e := node.Decode(encoding)
	if e != api.OK || !mayStand(n, s.under, place) {
		return side{}, api.ErrNode
	}
	return side{met: &n, rest: n.Path}, api.OK
}

// encoding tells the bytes of the node to which a side's ref leads.
func (ns nodes) encoding(s side) ([]byte, api.Errno) {
	if s.ref.Kind == api.RefNode {
		return s.ref.Node, api.OK
	}
	told, e := ns.src.Node(s.ref.Hash)
	if e != api.OK {
		return nil, e
	}
	isRoot := s.under == 0
	if ns.book.Hash(told) != s.ref.Hash || len(told) < leastHashed && !isRoot {
		return nil, api.ErrNode
	}
	return told, api.OK
}

// mayStand tells whether a node may stand behind so many nibbles in one of this kind: keys are whole bytes, none is longer than the
// longest, and what an extension leads to is a branch.
func mayStand(n api.Node, under, place int) bool {
	if under == api.Extension && n.Kind != api.Branch {
		return false
	}
	end := place + len(n.Path)
	holdsValue := n.Kind == api.Leaf || n.Full
	return end <= deepest && !(holdsValue && end%2 != 0)
}
