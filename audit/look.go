package audit

import (
	"cairn/api"
	"cairn/digest"
	"cairn/journal"
)

// look tells the records of a log that are right, from the first one on, and what is wrong.
func look(book *digest.Book, log []byte, reg api.Register) ([]journal.Entry, error) {
	if book == nil {
		return nil, number(api.ErrHandle)
	}
	entries, e := journal.Scan(book, log)
	if chained := chain(entries); chained < len(entries) {
		// It stands ahead of whatever ended the scan, so it is the first fault.
		return entries[:chained], faultAt(chained, api.ErrChain)
	}
	if e != api.OK {
		return entries, faultAt(len(entries), e)
	}
	return entries, stale(entries, reg)
}

// chain tells how many entries there are, from the first one on, of which each but the first follows the one ahead of it.
func chain(entries []journal.Entry) int {
	for k := 1; k < len(entries); k++ {
		if !journal.Follows(headBehind(entries[k-1]), entries[k].Record) {
			return k
		}
	}
	return len(entries)
}

// stale tells what is wrong, if the register does not stand for the last of some entries.
func stale(entries []journal.Entry, reg api.Register) error {
	var last api.Head // where there is no record, the register of zeros is the right one
	if n := len(entries); n > 0 {
		last = headBehind(entries[n-1])
	}
	if reg.Count != last.Count || reg.Tag != last.Tag {
		return number(api.ErrStale)
	}
	return nil
}

// headBehind tells where the journal stands behind a record.
func headBehind(x journal.Entry) api.Head {
	return api.Head{Count: x.Record.Count, Seq: x.Record.Seq, Tag: x.Tag, Root: x.Record.Root}
}
