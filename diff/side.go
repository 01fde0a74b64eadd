package diff

import (
	"bytes"

	"cairn/api"
)

// side is what one of the two tries has at a place: nothing, a ref, a node that was met there, or the rest of the path of one that
// was met above.
type side struct {
	ref   api.Ref   // of a node that is still to be met
	under int       // the kind of the node in which that ref stands; none at the root
	met   *api.Node // the node, once it is met
	rest  []byte    // of its path: what lies behind the place
}

// same tells whether two sides have the same at a place at which no node was met yet: then nothing below it differs.
func same(a, b side) bool {
	if a.met == nil || b.met == nil {
		return a.met == nil && b.met == nil && sameRef(a.ref, b.ref)
	}
	sameEnd := bytes.Equal(a.met.Value, b.met.Value) && sameRef(a.met.Next, b.met.Next)
	return a.met.Kind == b.met.Kind && bytes.Equal(a.rest, b.rest) && sameEnd
}

// sameRef tells whether two refs are one: that none is one with none goes without saying.
func sameRef(a, b api.Ref) bool {
	return a.Kind == b.Kind && a.Hash == b.Hash && bytes.Equal(a.Node, b.Node)
}

// value tells the value of the place; none is empty, so an empty one stands for none.
func (s side) value() []byte {
	if s.met == nil || len(s.rest) > 0 {
		return nil
	}
	return s.met.Value
}

// behind tells what the side has at the place with one nibble more.
func (s side) behind(nibble byte) side {
	switch {
	case s.met == nil:
		return side{}
	case s.met.Kind == api.Branch:
		return side{ref: s.met.Kids[nibble], under: api.Branch}
	case len(s.rest) == 0 || s.rest[0] != nibble:
		return side{}
	case s.met.Kind == api.Extension && len(s.rest) == 1:
		return side{ref: s.met.Next, under: api.Extension}
	}
	return side{met: s.met, rest: s.rest[1:]}
}
