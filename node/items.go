package node

import (
	"cairn/api"
	"cairn/path"
	"cairn/rlp"
)

// itemOf tells the list that a node that may be has as its form.
func itemOf(n api.Node) rlp.Item {
	switch end, leaf := refItem(n.Next), false; n.Kind {
	case api.Leaf:
		end, leaf = rlp.Item{Bytes: n.Value}, true
		fallthrough
	case api.Extension:
		way, _ := path.Pack(n.Path, leaf)
		return rlp.Item{List: true, Items: []rlp.Item{{Bytes: way}, end}}
	}
	x := rlp.Item{List: true}
	for i := range ways {
		x.Items = append(x.Items, refItem(n.Kids[i]))
	}
	x.Items = append(x.Items, rlp.Item{Bytes: n.Value})
	return x
}

// refItem tells the item by which a right ref stands in a list.
func refItem(r api.Ref) rlp.Item {
	switch r.Kind {
	case api.RefHash:
		return rlp.Item{Bytes: r.Hash[:]}
	case api.RefNode:
		x, _, _ := rlp.Decode(r.Node)
		return x
	}
	return rlp.Item{}
}

// nodeOf tells the node that an item stands for, and whether there is one; that it may be is not looked at.
func nodeOf(x rlp.Item) (api.Node, bool) {
	switch len(x.Items) {
	case 2:
		return pathNode(x.Items[0], x.Items[1])
	case ways + 1:
		return branchNode(x.Items)
	}
	return api.Node{}, false
}

// pathNode tells the leaf or the extension of its two items.
func pathNode(way, end rlp.Item) (api.Node, bool) {
	// A list has no bytes, and no bytes are no path: so it is refused here too.
	nibbles, leaf, e := path.Unpack(way.Bytes)
	if e != api.OK {
		return api.Node{}, false
	}
	if leaf {
		return api.Node{Kind: api.Leaf, Path: nibbles, Value: end.Bytes}, !end.List
	}
	next, ok := refOf(end)
	return api.Node{Kind: api.Extension, Path: nibbles, Next: next}, ok
}

// branchNode tells the branch of its seventeen items.
func branchNode(items []rlp.Item) (api.Node, bool) {
	value := items[ways]
	n := api.Node{Kind: api.Branch, Value: value.Bytes, Full: len(value.Bytes) > 0}
	for i := range ways {
		var ok bool
		if n.Kids[i], ok = refOf(items[i]); !ok {
			return api.Node{}, false
		}
	}
	return n, !value.List
}

// refOf tells the ref that an item stands for, and whether there is one; a whole node is not looked into.
func refOf(x rlp.Item) (api.Ref, bool) {
	if x.List {
		form, _ := rlp.Encode(x) // it was read, so it has one
		return api.Ref{Kind: api.RefNode, Node: form}, true
	}
	switch len(x.Bytes) {
	case 0:
		return api.Ref{}, true
	case len(api.Hash{}):
		return api.Ref{Kind: api.RefHash, Hash: api.Hash(x.Bytes)}, true
	}
	return api.Ref{}, false
}
