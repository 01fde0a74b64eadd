package extract

import (
	"bytes"
	"slices"

	"cairn/api"
	"cairn/digest"
)

// emptyForm is the byte that the map has under the empty trie's root, where no node is.
const emptyForm byte = 128

// shelf is a map's strings, each hash of which has one alone.
type shelf struct {
	strings [][]byte
	first   map[api.Hash]int // the number of a hash's first string
}

// shelve lays a map's strings by their hashes; where two different ones have one hash, it tells these alone, and true.
func shelve(book *digest.Book, nodes [][]byte) (*shelf, api.Pair, bool) {
	s := &shelf{first: make(map[api.Hash]int)}
	s.strings = slices.Concat(nodes, [][]byte{{emptyForm}}) // not appended: what is handed in may have spare room
	for i, b := range s.strings {
		h := book.Hash(b)
		earlier, there := s.under(h)
		if !there {
			s.first[h] = i
		} else if !bytes.Equal(earlier, b) {
			return nil, pairOf(earlier, b), true
		}
	}
	return s, api.Pair{}, false
}

// under tells the map's string under a hash, if there is one.
func (s *shelf) under(h api.Hash) ([]byte, bool) {
	i, there := s.first[h]
	if !there {
		return nil, false
	}
	return s.strings[i], true
}

// pairOf tells two strings as an answer: nothing of it is what was handed in.
func pairOf(a, b []byte) api.Pair {
	return api.Pair{A: bytes.Clone(a), B: bytes.Clone(b)}
}
