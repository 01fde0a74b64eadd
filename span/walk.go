package span

import (
	"slices"

	"cairn/api"
	"cairn/node"
	"cairn/octet"
)

// deepest is the number of nibbles of the longest key.
const deepest = 2 * api.MaxKey

// leastHashed is the least number of bytes of a node that stands in another one by its hash.
const leastHashed = 32

// reader tells the node of a hash, if it has at least so many bytes. The two calls differ in nothing else: so it is handed down
// the walk, and both go one way.
type reader = func(h api.Hash, least int) (api.Node, api.Errno)

// walk goes over a trie within bounds, by the keys rising.
type walk struct {
	bounds  api.Bounds // told by nibbles: in these keys stand in the same order, and places have no other form
	entries []api.Entry
}

// walkWithin goes over a trie that has a root node, and tells the entries within bounds.
func walkWithin(b api.Bounds, root api.Hash, read reader) ([]api.Entry, api.Errno) {
	w := &walk{bounds: api.Bounds{From: octet.Nibbles(b.From), To: octet.Nibbles(b.To), Open: b.Open}}
	if !w.leadsWithin(nil) {
		return nil, api.OK
	}
	n, e := read(root, 0)
	if e == api.OK {
		e = w.meet(n, nil, read)
	}
	if e != api.OK {
		return nil, e
	}
	return w.entries, api.OK
}

// leadsWithin tells whether the walk goes into what stands at a place.
func (w *walk) leadsWithin(place []byte) bool {
	from, to := w.bounds.From, w.bounds.To
	if octet.Compare(place, from) < 0 && octet.Common(place, from) < len(place) {
		return false
	}
	return w.bounds.Open || octet.Compare(place, to) < 0
}

// meet goes over the node at a place. Of entry, next and kids a node of any kind has what it has: the entry stands ahead of the
// kids, as a beginning does of what it begins.
func (w *walk) meet(n api.Node, place []byte, read reader) api.Errno {
	if !mayStand(n, len(place)) {
		return api.ErrNode
	}
	end := slices.Concat(place, n.Path)
	w.tell(n, end)
	if e := w.goOn(n, n.Next, end, read); e != api.OK {
		return e
	}
	for way, kid := range n.Kids {
		if e := w.goOn(n, kid, append(end, byte(way)), read); e != api.OK {
			return e
		}
	}
	return api.OK
}

// tell takes the entry of a node's value at a place, if there is one and it lies within the bounds.
func (w *walk) tell(n api.Node, place []byte) {
	if len(n.Value) == 0 || !octet.Within(place, w.bounds) {
		return
	}
	key, _ := octet.Bytes(place) // mayStand has seen to it that these are whole bytes
	w.entries = append(w.entries, api.Entry{Key: key, Value: n.Value})
}

// goOn goes on from a node to the ref that stands in it, at that ref's place: under a hash there may be what stands in no trie of a map.
func (w *walk) goOn(from api.Node, r api.Ref, place []byte, read reader) api.Errno {
	if r.Kind == api.RefNone || !w.leadsWithin(place) {
		return api.OK
	}
	n, e := follow(r, read)
	if e != api.OK {
		return e
	}
	if from.Kind == api.Extension && n.Kind != api.Branch {
		return api.ErrNode
	}
	return w.meet(n, place, read)
}

// follow tells the node of a ref that leads to one.
func follow(r api.Ref, read reader) (api.Node, api.Errno) {
	if r.Kind == api.RefHash {
		return read(r.Hash, leastHashed)
	}
	return decode(r.Node)
}

// decode tells the node of an encoding, under the one number that a walk has for whatever is none.
func decode(encoding []byte) (api.Node, api.Errno) {
	n, e := node.Decode(encoding)
	if e != api.OK {
		return api.Node{}, api.ErrNode
	}
	return n, api.OK
}

// mayStand tells whether a node may stand behind so many nibbles: keys are whole bytes, and none is longer than the longest.
func mayStand(n api.Node, place int) bool {
	end := place + len(n.Path)
	holdsValue := n.Kind == api.Leaf || n.Full
	return end <= deepest && !(holdsValue && end%2 != 0)
}
