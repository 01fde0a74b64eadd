package sweep

import (
	"bytes"
	"slices"

	"cairn/api"
)

// set is hashes, each once.
type set map[api.Hash]struct{}

// take takes in those of the hashes that are not there yet, and tells them in their order.
func (s set) take(hashes []api.Hash) []api.Hash {
	var taken []api.Hash
	for _, h := range hashes {
		if s.has(h) {
			continue
		}
		s[h] = struct{}{}
		taken = append(taken, h)
	}
	return taken
}

// has tells whether a hash is there.
func (s set) has(h api.Hash) bool {
	_, there := s[h]
	return there
}

// rising tells all hashes by their bytes.
func (s set) rising() []api.Hash {
	out := make([]api.Hash, 0, len(s))
	for h := range s {
		out = append(out, h)
	}
	slices.SortFunc(out, func(a, b api.Hash) int { return bytes.Compare(a[:], b[:]) })
	return out
}
