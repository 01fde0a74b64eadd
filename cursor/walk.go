package cursor

import (
	"slices"

	"cairn/api"
	"cairn/octet"
)

// taker is handed each entry of a walk, or the error that ends it, and tells whether the walk is to go on.
type taker = func(entry api.Entry, e api.Errno) bool

// walk goes over the entries of a trie within bounds.
type walk struct {
	trie   trie
	bounds api.Bounds // told by nibbles: in these keys stand in the same order, and places have no other form
	back   bool
}

// forward is the walk by the keys rising.
func forward(t trie, b api.Bounds) *walk {
	return &walk{trie: t, bounds: api.Bounds{From: octet.Nibbles(b.From), To: octet.Nibbles(b.To), Open: b.Open}}
}

// backward is the same walk the other way round.
func backward(t trie, b api.Bounds) *walk {
	w := forward(t, b)
	w.back = true
	return w
}

// entries gives the entries, one behind the other; an error comes by itself, and is the last.
func (w *walk) entries(take taker) {
	if w.trie.isEmpty() || !w.leadsWithin(nil) {
		return
	}
	n, e := w.trie.first()
	w.meet(n, e, nil, take)
}

// leadsWithin tells whether the walk goes into what stands at a place.
func (w *walk) leadsWithin(place []byte) bool {
	from, to := w.bounds.From, w.bounds.To
	if octet.Compare(place, from) < 0 && octet.Common(place, from) < len(place) {
		return false
	}
	return w.bounds.Open || octet.Compare(place, to) < 0
}

// goOn goes on from a node to the ref that stands in it, at that ref's place. Like all that follow it tells whether the walk goes on behind.
func (w *walk) goOn(from api.Node, r api.Ref, place []byte, take taker) bool {
	if r.Kind == api.RefNone || !w.leadsWithin(place) {
		return true
	}
	n, e := w.trie.follow(from, r)
	return w.meet(n, e, place, take)
}

// meet goes over the node at a place, if it could be had and may stand there.
func (w *walk) meet(n api.Node, e api.Errno, place []byte, take taker) bool {
	if e == api.OK && !mayStand(n, len(place)) {
		e = api.ErrNode
	}
	if e != api.OK {
		take(api.Entry{}, e)
		return false
	}
	end := slices.Concat(place, n.Path)
	switch n.Kind {
	case api.Leaf:
		return w.tell(n, end, take)
	case api.Extension:
		return w.goOn(n, n.Next, end, take)
	}
	return w.spread(n, end, take)
}

// spread goes over a branch: its value stands ahead of its kids, as a beginning does of what it begins.
func (w *walk) spread(n api.Node, place []byte, take taker) bool {
	if !w.back && !w.tell(n, place, take) {
		return false
	}
	for i := range len(n.Kids) {
		way := i
		if w.back {
			way = len(n.Kids) - 1 - i
		}
		if !w.goOn(n, n.Kids[way], append(place, byte(way)), take) {
			return false
		}
	}
	return !w.back || w.tell(n, place, take)
}

// tell hands out the entry of a node's value at a place, if there is one and it lies within the bounds.
func (w *walk) tell(n api.Node, place []byte, take taker) bool {
	if len(n.Value) == 0 || !octet.Within(place, w.bounds) {
		return true
	}
	key, _ := octet.Bytes(place) // mayStand has seen to it that these are whole bytes
	return take(api.Entry{Key: key, Value: n.Value}, api.OK)
}
