package digest

import (
	"bytes"
	"slices"

	"cairn/api"
)

// notes are different strings by their hashes, or by their codes. Those of one hash rise, so that the least one is
// the first, and nothing hangs on the order in which they came.
type notes struct {
	byHash map[api.Hash][][]byte
	count  int
}

// blank tells notes without any string.
func blank() notes { return notes{byHash: make(map[api.Hash][][]byte)} }

// place tells where among the strings of a hash one stands, or would stand, and whether it is there.
func (n *notes) place(h api.Hash, s []byte) (int, bool) {
	return slices.BinarySearchFunc(n.byHash[h], s, bytes.Compare)
}

// has tells whether a string is noted under its hash.
func (n *notes) has(h api.Hash, s []byte) bool {
	_, found := n.place(h, s)
	return found
}

// add notes a string under its hash, if it is not noted yet.
func (n *notes) add(h api.Hash, s []byte) {
	at, found := n.place(h, s)
	if found {
		return
	}
	n.byHash[h] = slices.Insert(n.byHash[h], at, bytes.Clone(s))
	n.count++
}

// met tells whether several strings have one hash: then there are more strings than hashes.
func (n *notes) met() bool { return n.count > len(n.byHash) }

// pairs tells, for each hash, the least string with each other one.
func (n *notes) pairs() []api.Pair {
	var out []api.Pair
	for _, all := range n.byHash {
		for _, other := range all[1:] {
			out = append(out, api.Pair{A: bytes.Clone(all[0]), B: bytes.Clone(other)})
		}
	}
	slices.SortFunc(out, comparePairs)
	return out
}

// comparePairs tells which of two pairs stands first: by A, then by B.
func comparePairs(x, y api.Pair) int {
	if c := bytes.Compare(x.A, y.A); c != 0 {
		return c
	}
	return bytes.Compare(x.B, y.B)
}
