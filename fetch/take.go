package fetch

import (
	"bytes"

	"cairn/api"
	"cairn/node"
)

// keep keeps a node that may be wanted later; of several with one hash the first one.
func (f *Fetch) keep(b []byte) {
	if !isBlob(b) || !isNode(b) {
		return
	}
	h := f.book.Hash(b)
	if _, there := f.spare[h]; !there {
		f.spare[h] = bytes.Clone(b)
	}
}

// want asks for hashes, but for those that were asked for before; whatever of them is in the spare is taken at once, and what that leads
// to is asked for as well.
func (f *Fetch) want(row ...api.Hash) {
	for len(row) > 0 {
		h := row[0]
		row = row[1:]
		if f.met(h) {
			continue
		}
		f.wanted[h] = struct{}{}
		if b, there := f.spare[h]; there {
			delete(f.spare, h)
			row = append(row, f.take(h, b)...)
		}
	}
	if f.Done() { // nothing will be wanted any more
		clear(f.spare)
	}
}

// met tells whether a hash was asked for before.
func (f *Fetch) met(h api.Hash) bool {
	_, wanted := f.wanted[h]
	_, taken := f.taken[h]
	return wanted || taken
}

// take takes a node under the hash that wants it, and tells the hashes to which it leads.
func (f *Fetch) take(h api.Hash, encoding []byte) []api.Hash {
	delete(f.wanted, h)
	f.taken[h] = encoding
	below, _ := node.Hashes(encoding)
	return below
}

// isBlob tells whether a device could have these bytes.
func isBlob(b []byte) bool { return len(b) > 0 && len(b) <= api.MaxNode }

func isNode(b []byte) bool {
	_, e := node.Decode(b)
	return e == api.OK
}
