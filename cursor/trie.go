package cursor

import (
	"cairn/api"
	"cairn/digest"
	"cairn/node"
)

// deepest is the number of nibbles of the longest key.
const deepest = 2 * api.MaxKey

// leastHashed is the least number of bytes of a node that stands in another one by its hash.
const leastHashed = 32

// trie is a source's trie of a root, none of whose nodes is trusted.
type trie struct {
	src  api.Source
	book *digest.Book
	root api.Hash
}

// isEmpty tells whether there is no node to be read.
func (t trie) isEmpty() bool { return t.root == node.Empty(t.book) }

// first tells the root's node.
func (t trie) first() (api.Node, api.Errno) { return t.read(t.root, 0) }

// follow tells the node to which a ref leads from another one: a source may lay under a hash what stands in no trie of a map.
func (t trie) follow(from api.Node, r api.Ref) (api.Node, api.Errno) {
	n, e := t.had(r)
	if e != api.OK {
		return api.Node{}, e
	}
	if from.Kind == api.Extension && n.Kind != api.Branch {
		return api.Node{}, api.ErrNode
	}
	return n, api.OK
}

// had tells the node of a ref that leads to one.
func (t trie) had(r api.Ref) (api.Node, api.Errno) {
	if r.Kind == api.RefHash {
		return t.read(r.Hash, leastHashed)
	}
	return decode(r.Node)
}

// read reads the node of a hash from the source, which must tell at least so many bytes for it.
func (t trie) read(h api.Hash, least int) (api.Node, api.Errno) {
	encoding, e := t.src.Node(h)
	if e != api.OK {
		return api.Node{}, e
	}
	if t.book.Hash(encoding) != h || len(encoding) < least {
		return api.Node{}, api.ErrNode
	}
	return decode(encoding)
}

// decode tells the node of an encoding, under the one number that a walk has for whatever is none.
func decode(encoding []byte) (api.Node, api.Errno) {
	n, e := node.Decode(encoding)
	if e != api.OK {
		return api.Node{}, api.ErrNode
	}
	return n, api.OK
}

// mayStand tells whether a node may stand behind so many nibbles: keys are whole bytes, and none is longer than the longest.
func mayStand(n api.Node, place int) bool {
	end := place + len(n.Path)
	holdsValue := n.Kind == api.Leaf || n.Full
	return end <= deepest && !(holdsValue && end%2 != 0)
}
