package hstore

import (
	"bytes"
	"slices"

	"cairn/api"
)

// cache keeps blobs that were looked at, by their hashes: the youngest ones, at most so many.
type cache struct {
	most  int
	order []api.Hash // the oldest first
	blobs map[api.Hash][]byte
}

// newCache makes an empty cache of at most so many blobs.
func newCache(most int) cache {
	return cache{most: most, blobs: make(map[api.Hash][]byte)}
}

// get tells a copy of the blob under a hash, and whether there is one; it grows no younger by that.
func (c *cache) get(h api.Hash) ([]byte, bool) {
	b, there := c.blobs[h]
	return bytes.Clone(b), there
}

// hasOther tells whether other bytes than these stand under a hash.
func (c *cache) hasOther(h api.Hash, b []byte) bool {
	kept, there := c.blobs[h]
	return there && !bytes.Equal(kept, b)
}

// add keeps a copy of a blob as the youngest one, unless its hash is there already; where that is one too many, the oldest goes.
func (c *cache) add(h api.Hash, b []byte) {
	if _, there := c.blobs[h]; there {
		return
	}
	c.order = append(c.order, h)
	c.blobs[h] = bytes.Clone(b)
	if len(c.order) > c.most {
		delete(c.blobs, c.order[0])
		c.order = slices.Delete(c.order, 0, 1)
	}
}

// remove takes these hashes out, as far as they are there.
func (c *cache) remove(hs []api.Hash) {
	for _, h := range hs {
		delete(c.blobs, h)
	}
	c.order = slices.DeleteFunc(c.order, func(h api.Hash) bool {
		_, left := c.blobs[h]
		return !left
	})
}

// empty takes all out.
func (c *cache) empty() {
	c.order = nil
	clear(c.blobs)
}
