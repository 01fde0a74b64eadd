package store

import (
	"cairn/api"
	"cairn/grow"
	"cairn/sweep"
)

// commit makes the batch the map's: the new nodes are there ahead of the record that leads to them.
func (s *Store) commit() (api.Hash, api.Errno) {
	stage, e := grow.New(s.blobs, s.book)
	if e != api.OK {
		return api.Hash{}, e
	}
	root, e := stage.Apply(s.root(), s.batch)
	if e != api.OK {
		return api.Hash{}, e
	}
	fresh, e := stage.Reach(root)
	if e != api.OK {
		return api.Hash{}, e
	}
	if e := s.write(fresh); e != api.OK {
		return api.Hash{}, e
	}
	if _, e := s.log.Commit(root, s.batch); e != api.OK {
		return api.Hash{}, e
	}
	s.batch, s.pass = nil, nil
	return root, api.OK
}

// write writes new nodes. Where the first of them finds no slot, all goes that neither the new trie nor the present one needs: a second sweep would find nothing more.
func (s *Store) write(fresh []api.Blob) api.Errno {
	swept := false
	for _, b := range fresh {
		_, e := s.blobs.Put(b.Data)
		if e == api.ErrFull && !swept {
			swept = true
			if _, e := s.sweep(keysOf(fresh)...); e != api.OK {
				return e
			}
			_, e = s.blobs.Put(b.Data)
		}
		if e != api.OK {
			return e
		}
	}
	return api.OK
}

// sweep deletes what the committed root does not lead to, but for what is to be kept.
func (s *Store) sweep(keep ...api.Hash) (api.Swept, api.Errno) {
	return sweep.Sweep(s.device, s.blobs, s.book, keep, s.root())
}

// keysOf tells the keys of blobs.
func keysOf(blobs []api.Blob) []api.Hash {
	var keys []api.Hash
	for _, b := range blobs {
		keys = append(keys, b.Key)
	}
	return keys
}
