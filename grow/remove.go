package grow

import (
	"cairn/api"
	"cairn/octet"
)

// remove tells the node that comes out where a node loses the value at the rest of the key, the zero Node if nothing is left of it, and whether it is another one.
func (w *way) remove(n api.Node, rest []byte) (api.Node, bool) {
	same := octet.Common(n.Path, rest)
	if same < len(n.Path) {
		return n, false
	}
	rest = rest[same:]
	switch n.Kind {
	case api.Leaf:
		return api.Node{}, len(rest) == 0
	case api.Extension:
		below, changed := w.remove(w.meet(n.Next), rest)
		if !changed {
			return n, false
		}
		return w.extend(n.Path, below), true
	case api.Branch:
		return w.thin(n, rest)
	}
	return n, false
}

// thin is remove at a branch.
func (w *way) thin(n api.Node, rest []byte) (api.Node, bool) {
	changed := n.Full
	if len(rest) == 0 {
		n.Value, n.Full = nil, false
	} else {
		var kid api.Node
		if kid, changed = w.remove(w.meet(n.Kids[rest[0]]), rest[1:]); changed {
			n.Kids[rest[0]] = w.stand(kid)
		}
	}
	if !changed {
		return n, false
	}
	return w.settle(n, w.length-len(rest)), true
}

// settle tells what stands for a branch, so many nibbles from the root, that may have lost its last thing but one.
func (w *way) settle(n api.Node, place int) api.Node {
	kids, last := 0, 0
	for i, kid := range n.Kids {
		if kid.Kind != api.RefNone {
			kids, last = kids+1, i
		}
	}
	switch {
	case kids == 0:
		return leafOf(nil, n.Value)
	case kids > 1 || n.Full:
		return n
	}
	nibble := []byte{byte(last)}
	kid := w.look(n.Kids[last], place+1)
	if kid.Kind == api.Branch {
		return api.Node{Kind: api.Extension, Path: nibble, Next: n.Kids[last]} // the branch itself is as it was
	}
	return w.extend(nibble, kid)
}
