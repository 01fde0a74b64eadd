package shape

import (
	"cairn/api"
	"cairn/octet"
)

// ways is the number of a branch's kids: one for each nibble.
const ways = 16

// part is what becomes of the keys that lead to one place: of a single one a leaf, of several a branch, ahead of which an
// extension stands if there is a path. How its nodes are written does not matter here: so it needs no book.
type part struct {
	fork  bool   // of several keys
	path  []byte // the nibbles that all of them have in common from this place on
	value []byte // of the one that ends behind the path; of no byte, where none does
	kids  [ways]*part
}

// partOf tells the part of all entries of a map; nil, if there are none.
func partOf(entries []api.Entry) *part {
	var cut func(in []api.Entry, place int) *part
	cut = func(in []api.Entry, place int) *part {
		if len(in) == 0 {
			return nil
		}
		first, last := in[0].Key[place:], in[len(in)-1].Key[place:]
		same := octet.Common(first, last) // all others lie between these two, and have it in common too
		p := &part{fork: len(in) > 1, path: first[:same]}
		if same == len(first) {
			p.value = in[0].Value
			in = in[1:]
		}
		place += same
		for way := range ways {
			end := 0
			for end < len(in) && in[end].Key[place] == byte(way) {
				end++
			}
			p.kids[way] = cut(in[:end], place+1)
			in = in[end:]
		}
		return p
	}
	return cut(byNibbles(entries), 0)
}

// byNibbles tells entries with the nibbles of their keys in the keys' stead; their order is the same.
func byNibbles(entries []api.Entry) []api.Entry {
	out := make([]api.Entry, len(entries))
	for i, x := range entries {
		out[i] = api.Entry{Key: octet.Nibbles(x.Key), Value: x.Value}
	}
	return out
}

// census is how many nodes of each kind were met.
type census struct{ leaves, extensions, branches int }

// count meets the nodes of a part and all below it, and tells how many lie on the longest way down.
func (c *census) count(p *part) int {
	if p == nil {
		return 0
	}
	if !p.fork {
		c.leaves++
		return 1
	}
	depth := 0
	for way := range ways {
		depth = max(depth, c.count(p.kids[way]))
	}
	c.branches++
	if len(p.path) == 0 {
		return depth + 1
	}
	c.extensions++
	return depth + 2
}
