package grow

import (
	"bytes"

	"cairn/api"
	"cairn/octet"
)

// put tells the node that comes out where a node, or none, gets the value at the rest of the key, and whether it is another one.
func (w *way) put(n api.Node, rest, value []byte) (api.Node, bool) {
	if n.Kind == 0 {
		return leafOf(rest, value), true
	}
	same := octet.Common(n.Path, rest)
	if same < len(n.Path) || n.Kind == api.Leaf && same < len(rest) {
		return w.cut(n, same, rest, value), true
	}
	rest = rest[same:]
	changed := false
	switch {
	case n.Kind == api.Extension:
		var below api.Node
		if below, changed = w.put(w.meet(n.Next), rest, value); changed {
			n.Next = w.stand(below)
		}
	case len(rest) > 0:
		var kid api.Node
		if kid, changed = w.put(w.meet(n.Kids[rest[0]]), rest[1:], value); changed {
			n.Kids[rest[0]] = w.stand(kid)
		}
	case !bytes.Equal(n.Value, value):
		n.Value, n.Full = value, n.Kind == api.Branch
		changed = true
	}
	return n, changed
}

// cut tells what comes out where the key parts from a leaf or an extension, behind so many nibbles that both have.
func (w *way) cut(n api.Node, same int, rest, value []byte) api.Node {
	shared := n.Path[:same]
	n.Path = n.Path[same:]
	fork := api.Node{Kind: api.Branch}
	w.hang(&fork, n)
	w.hang(&fork, leafOf(rest[same:], value))
	return w.extend(shared, fork)
}

// hang puts a leaf or an extension into a branch, which takes the first nibble off its path.
func (w *way) hang(fork *api.Node, n api.Node) {
	if len(n.Path) == 0 { // a leaf that ends here
		fork.Value, fork.Full = n.Value, true
		return
	}
	kid := &fork.Kids[n.Path[0]]
	n.Path = n.Path[1:]
	if n.Kind == api.Extension && len(n.Path) == 0 {
		*kid = n.Next // an extension without a nibble is none
		return
	}
	*kid = w.stand(n)
}

func leafOf(path, value []byte) api.Node {
	return api.Node{Kind: api.Leaf, Path: path, Value: value}
}
