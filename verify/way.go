package verify

import (
	"cairn/api"
	"cairn/digest"
	"cairn/node"
	"cairn/octet"
	"cairn/proof"
)

// deepest is the number of nibbles of the longest key.
const deepest = 2 * api.MaxKey

// leastHashed is the least number of bytes of a node that stands in another one by its hash.
const leastHashed = 32

// way is a key's way down a trie of which a proof shows the nodes, as far as one has come.
type way struct {
	book  *digest.Book
	left  [][]byte // the proof's strings that have not been read
	taken int      // how many of the key's nibbles have been taken off
	rest  []byte   // those that are left
}

// begin tells the way of a key ahead of its first node, if the bytes are a proof's.
func begin(book *digest.Book, key []byte, b []byte) (*way, bool) {
	strings, e := proof.Unpack(b)
	if e != api.OK {
		return nil, false
	}
	return &way{book: book, left: strings, rest: octet.Nibbles(key)}, true
}

// goDown goes the way from the root to its end, and tells the value there, if there is one; false, if the proof does not show the way, or shows what stands in no trie of a map.
func (w *way) goDown(root api.Hash) ([]byte, bool) {
	if root == node.Empty(w.book) {
		return nil, true
	}
	n, ok := w.read(root, 0)
	for ok && w.mayStand(n) {
		value, next := w.pass(n)
		if next.Kind == api.RefNone {
			return value, true
		}
		n, ok = w.follow(n, next)
	}
	return nil, false
}

// mayStand tells whether a node may stand where one has come: keys are whole bytes, and none is longer than the longest.
func (w *way) mayStand(n api.Node) bool {
	end := w.taken + len(n.Path)
	holdsValue := n.Kind == api.Leaf || n.Full
	return end <= deepest && !(holdsValue && end%2 != 0)
}

// pass tells what a node has of the rest: the value, if the key ends there, or how the next node on the way stands; neither, if the key has nothing.
func (w *way) pass(n api.Node) (value []byte, next api.Ref) {
	if octet.Common(n.Path, w.rest) < len(n.Path) {
		return nil, api.Ref{}
	}
	w.take(len(n.Path))
	if n.Kind == api.Extension {
		return nil, n.Next
	}
	if len(w.rest) == 0 {
		return n.Value, api.Ref{}
	}
	kid := n.Kids[w.rest[0]] // none, where a leaf ends and the key goes on
	w.take(1)
	return nil, kid
}

// take takes nibbles off the rest.
func (w *way) take(nibbles int) {
	w.taken += nibbles
	w.rest = w.rest[nibbles:]
}

// follow tells the node to which one goes on from another one, if it may stand behind it: under a hash a proof may show what stands in no trie of a map.
func (w *way) follow(from api.Node, next api.Ref) (api.Node, bool) {
	n, ok := w.meet(next)
	if !ok || from.Kind == api.Extension && n.Kind != api.Branch {
		return api.Node{}, false
	}
	return n, true
}

// meet tells the node of a ref that leads to one.
func (w *way) meet(r api.Ref) (api.Node, bool) {
	if r.Kind == api.RefHash {
		return w.read(r.Hash, leastHashed)
	}
	n, e := node.Decode(r.Node)
	return n, e == api.OK
}

// read tells the node of a hash: it must be the proof's next string, of at least so many bytes.
func (w *way) read(h api.Hash, least int) (api.Node, bool) {
	if len(w.left) == 0 {
		return api.Node{}, false
	}
	encoding := w.left[0]
	w.left = w.left[1:]
	if w.book.Hash(encoding) != h || len(encoding) < least {
		return api.Node{}, false
	}
	n, e := node.Decode(encoding)
	return n, e == api.OK
}
