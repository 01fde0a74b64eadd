package seal

import (
	"cairn/api"
	"cairn/journal"
)

// emptyTrie is the byte whose hash is the empty trie's root.
const emptyTrie = 128

// standing is where an opening finds the journal.
type standing struct {
	head  api.Head
	begin int // where the record begins that the register stands for
	kept  int // how much of the log leads to the head
	long  int // how long the log is
}

// open finds where the journal stands, and writes a record of its own behind it.
func (k desk) open() (api.Head, error) {
	s, err := k.find()
	if err != nil {
		return api.Head{}, err
	}
	if s.head.Count >= api.MaxCount {
		return api.Head{}, fault{api.ErrCount}
	}
	if s.long > s.kept {
		if e := k.device.Cut(s.kept); e != api.OK {
			return api.Head{}, wrong(e)
		}
	}
	r := api.Record{
		Kind:  api.Opened,
		Count: s.head.Count + 1,
		Seq:   s.head.Seq,
		Prev:  s.head.Tag,
		Root:  s.head.Root,
	}
	return k.write(r, func() (int, error) { return s.begin, nil })
}

// find tells where the journal stands: at the record that the register stands for, or at the commit just behind it, which a crash met ahead of the register.
func (k desk) find() (standing, error) {
	reg, e := k.device.Reg()
	if e != api.OK {
		return standing{}, wrong(e)
	}
	entries, long, err := k.read()
	if err != nil {
		return standing{}, err
	}
	s := standing{long: long}
	next := 0
	if reg.Count == 0 {
		s.head.Root = k.book.Hash([]byte{emptyTrie})
	} else {
		at, err := lastOf(entries, reg)
		if err != nil {
			return standing{}, err
		}
		s.head, s.begin, s.kept = behind(entries[at]), entries[at].Begin, entries[at].End
		next = at + 1
	}
	if next < len(entries) && commits(entries[next].Record, s.head) {
		s.head, s.kept = behind(entries[next]), entries[next].End
	}
	return s, nil
}

// commits tells whether a record is a commit that follows a head.
func commits(r api.Record, h api.Head) bool {
	return r.Kind == api.Committed && journal.Follows(h, r)
}
