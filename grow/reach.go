package grow

import (
	"bytes"

	"cairn/api"
	"cairn/node"
)

// Reach tells the staged nodes that a root leads to through staged ones, in the order of a walk.
func (s *Stage) Reach(root api.Hash) ([]api.Blob, api.Errno) {
	if s == nil {
		return nil, api.ErrHandle
	}
	r := reach{stage: s, told: make(map[api.Hash]struct{})}
	r.from(root)
	return r.blobs, api.OK
}

// reach is a walk over staged nodes, as far as it has come.
type reach struct {
	stage *Stage
	told  map[api.Hash]struct{} // two ways may lead to one node, and with few bits a way may come back
	blobs []api.Blob
}

// from tells the node of a hash, and behind it all to which it leads.
func (r *reach) from(h api.Hash) {
	encoding, staged := r.stage.nodes[h]
	_, again := r.told[h]
	if !staged || again {
		return
	}
	r.told[h] = struct{}{}
	r.blobs = append(r.blobs, api.Blob{Key: h, Data: bytes.Clone(encoding)})
	hashes, _ := node.Hashes(encoding) // what is staged is an encoding
	for _, next := range hashes {
		r.from(next)
	}
}
