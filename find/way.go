package find

import (
	"cairn/api"
	"cairn/digest"
	"cairn/node"
	"cairn/octet"
)

// deepest is the number of nibbles of the longest key.
const deepest = 2 * api.MaxKey

// leastHashed is the least number of bytes of a node that stands in another one by its hash.
const leastHashed = 32

// way is a key's way down a trie, as far as one has come.
type way struct {
	src   api.Source
	book  *digest.Book
	seen  func(encoding []byte) // what is done with each node that is read
	taken int                   // how many of the key's nibbles have been taken off
	rest  []byte                // those that are left
}

// mayStand tells whether a node may stand where one has come: keys are whole bytes, and none is longer than the longest.
func (w *way) mayStand(n api.Node) bool {
	end := w.taken + len(n.Path)
	holdsValue := n.Kind == api.Leaf || n.Full
	return end <= deepest && !(holdsValue && end%2 != 0)
}

// pass tells what a node has of the rest: the value, if the key ends there, or how the next node on the way stands; neither, if the key has nothing.
func (w *way) pass(n api.Node) (value []byte, next api.Ref) {
	if octet.Common(n.Path, w.rest) < len(n.Path) {
		return nil, api.Ref{}
	}
	w.take(len(n.Path))
	if n.Kind == api.Extension {
		return nil, n.Next
	}
	if len(w.rest) == 0 {
		return n.Value, api.Ref{}
	}
	kid := n.Kids[w.rest[0]] // none, where a leaf ends and the key goes on
	w.take(1)
	return nil, kid
}

// take takes nibbles off the rest.
func (w *way) take(nibbles int) {
	w.taken += nibbles
	w.rest = w.rest[nibbles:]
}

// follow tells the node to which one goes on from another one: a source may lay under a hash what stands in no trie of a map.
func (w *way) follow(from api.Node, next api.Ref) (api.Node, api.Errno) {
	n, e := w.meet(next)
	if e != api.OK {
		return api.Node{}, e
	}
	if from.Kind == api.Extension && n.Kind != api.Branch {
		return api.Node{}, api.ErrNode
	}
	return n, api.OK
}

// meet tells the node of a ref that leads to one.
func (w *way) meet(r api.Ref) (api.Node, api.Errno) {
	if r.Kind == api.RefHash {
		return w.read(r.Hash, leastHashed)
	}
	return decode(r.Node)
}

// read reads the node of a hash from the source, which must tell at least so many bytes for it.
func (w *way) read(h api.Hash, least int) (api.Node, api.Errno) {
	encoding, e := w.src.Node(h)
	if e != api.OK {
		return api.Node{}, e
	}
	if w.book.Hash(encoding) != h || len(encoding) < least {
		return api.Node{}, api.ErrNode
	}
	n, e := decode(encoding)
	if e != api.OK {
		return api.Node{}, e
	}
	w.seen(encoding)
	return n, api.OK
}

// decode tells the node of an encoding, under the one number that a way has for whatever is none.
func decode(encoding []byte) (api.Node, api.Errno) {
	n, e := node.Decode(encoding)
	if e != api.OK {
		return api.Node{}, api.ErrNode
	}
	return n, api.OK
}
