package grow

import (
	"slices"

	"cairn/api"
)

// deepest is the number of nibbles of the longest key.
const deepest = 2 * api.MaxKey

// leastHashed is the least number of bytes of a node that stands in another one by its hash.
const leastHashed = 32

// way is a key's way down a trie and, with what has changed, up again.
type way struct {
	*batch
	trail  [][]byte // what was read on the way down and has not been come by yet
	length int      // of the whole key, in nibbles
}

// next tells the next node of the trail. What find read has been looked at there.
func (w *way) next() api.Node {
	n := decode(w.trail[0])
	w.trail = w.trail[1:]
	return n
}

// meet tells the node on the way to which a ref leads; the zero Node, where there is none.
func (w *way) meet(r api.Ref) api.Node {
	switch r.Kind {
	case api.RefHash:
		return w.next()
	case api.RefNode:
		return decode(r.Node)
	}
	return api.Node{}
}

// look tells the node of a ref beside the way, at so many nibbles from the root: nobody has looked at it yet.
func (w *way) look(r api.Ref, place int) api.Node {
	encoding := r.Node
	if r.Kind == api.RefHash {
		encoding = w.read(r.Hash)
	}
	n := decode(encoding)
	end := place + len(n.Path)
	holdsValue := n.Kind == api.Leaf || n.Full
	if end > deepest || holdsValue && end%2 != 0 {
		giveUp(api.ErrNode)
	}
	return n
}

// read tells the encoding that stands in a node by its hash.
func (w *way) read(h api.Hash) []byte {
	encoding, e := w.stage.Node(h)
	if e != api.OK {
		giveUp(e)
	}
	if w.stage.book.Hash(encoding) != h || len(encoding) < leastHashed {
		giveUp(api.ErrNode)
	}
	return encoding
}

// extend tells a node with a path ahead of it.
func (w *way) extend(path []byte, n api.Node) api.Node {
	if len(path) == 0 {
		return n
	}
	if n.Kind == api.Branch {
		return api.Node{Kind: api.Extension, Path: path, Next: w.stand(n)}
	}
	n.Path = slices.Concat(path, n.Path)
	return n
}
