package audit

import (
	"cairn/api"
	"cairn/digest"
	"cairn/shape"
)

// replay is a map to which batches are done again.
type replay struct {
	book    *digest.Book
	entries []api.Entry
	root    api.Hash // of the entries' trie
}

// behind tells the entries behind the batches of records, and what is wrong.
func behind(book *digest.Book, entries []api.Entry, records []api.Record) ([]api.Entry, error) {
	p := replay{book: book}
	if e := p.set(entries); e != api.OK {
		return nil, number(e)
	}
	for k, r := range records {
		if e := p.do(r); e != api.OK {
			return nil, faultAt(k, e)
		}
	}
	return shape.Sort(p.entries), nil // new memory, also where no batch has made any
}

// do does the batch of a record, if it has one, and holds the root against the record's.
func (p *replay) do(r api.Record) api.Errno {
	if r.Kind == api.Committed {
		entries, e := shape.Apply(p.entries, r.Changes)
		if e == api.OK {
			e = p.set(entries)
		}
		if e != api.OK {
			return e
		}
	}
	if p.root != r.Root {
		return api.ErrReplay
	}
	return api.OK
}

// set sets the map to a map's entries.
func (p *replay) set(entries []api.Entry) api.Errno {
	root, e := shape.Root(p.book, entries)
	if e != api.OK {
		return e
	}
	p.entries, p.root = entries, root
	return api.OK
}
