package node

import (
	"cairn/api"
	"cairn/path"
)

// mayBe tells whether a node may be.
func mayBe(n api.Node) bool {
	switch own := leadsOn; n.Kind {
	case api.Leaf:
		own = endsInValue
		fallthrough
	case api.Extension:
		return own(n) && isPath(n.Path) && !n.Full && hasNoKids(n)
	case api.Branch:
		return len(n.Path) == 0 && isNone(n.Next) && isFilled(n)
	}
	return false
}

// endsInValue tells whether a node has what a leaf has beside its path.
func endsInValue(n api.Node) bool {
	return isValue(n.Value) && isNone(n.Next)
}

// leadsOn tells whether a node has what an extension has beside its path.
// One without a nibble would be no more than the branch below it.
func leadsOn(n api.Node) bool {
	return len(n.Path) > 0 && len(n.Value) == 0 && isNext(n.Next)
}

// isFilled tells whether a node has what a branch has: with fewer than two things in it, it would be a leaf, an extension or nothing.
func isFilled(n api.Node) bool {
	things := 0
	for i := range ways {
		if !isRef(n.Kids[i]) {
			return false
		}
		if n.Kids[i].Kind != api.RefNone {
			things++
		}
	}
	if !n.Full {
		return things >= 2 && len(n.Value) == 0
	}
	return things >= 1 && isValue(n.Value)
}

// hasNoKids tells whether all kids of a node are zero.
func hasNoKids(n api.Node) bool {
	for i := range ways {
		if !isNone(n.Kids[i]) {
			return false
		}
	}
	return true
}

// isPath tells whether nibbles are a path.
func isPath(nibbles []byte) bool {
	_, e := path.Pack(nibbles, false)
	return e == api.OK
}

// isValue tells whether bytes are a value.
func isValue(v []byte) bool { return len(v) > 0 && len(v) <= api.MaxValue }

// isNone tells whether a ref is zero.
func isNone(r api.Ref) bool { return r.Kind == api.RefNone && isRef(r) }

// isRef tells whether a ref is right.
func isRef(r api.Ref) bool {
	switch r.Kind {
	case api.RefNone:
		return r.Hash == api.Hash{} && len(r.Node) == 0
	case api.RefHash:
		return len(r.Node) == 0
	case api.RefNode:
		return r.Hash == api.Hash{} && wholeKind(r.Node) != 0
	}
	return false
}

// isNext tells whether a ref may stand as an extension's Next: of what stands behind a hash nothing is asked.
func isNext(r api.Ref) bool {
	if r.Kind == api.RefNode {
		return r.Hash == api.Hash{} && wholeKind(r.Node) == api.Branch
	}
	return r.Kind == api.RefHash && isRef(r)
}

// wholeKind tells the kind of the node that these bytes are where they stand whole in another one; 0, if they may not.
// The length is looked at first: so each node that is looked into is shorter than the one around it, and 31 bytes end soon.
func wholeKind(b []byte) int {
	if len(b) >= leastHashed {
		return 0
	}
	n, _ := Decode(b)
	return n.Kind
}
