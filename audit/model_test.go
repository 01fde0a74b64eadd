package audit_test

import (
	"maps"

	"cairn/api"
	"cairn/audit"
	"cairn/digest"
	"cairn/frame"
	"cairn/journal"
	"cairn/shape"
)

// The model: the chapter written down a second time, with a book of its own. Log goes through the log once, record by record, and
// notes the first thing that is wrong; Replay goes over a map of texts.

// The errors, by their numbers.
const (
	wrongHandle = 1
	wrongInput  = 2
	wrongOrder  = 140
	wrongChain  = 192
	wrongStale  = 200
	wrongReplay = 260
)

// wantFollows tells whether a record that may be follows a head: P19.6.
func wantFollows(h api.Head, r api.Record) bool {
	if r.Count-1 != h.Count || r.Prev != h.Tag {
		return false
	}
	if r.Kind == 1 {
		return r.Seq == h.Seq && r.Root == h.Root
	}
	return r.Kind == 2 && r.Seq-1 == h.Seq
}

// wantLog tells what is found in a log: 26.2.
func wantLog(book *digest.Book, log string, reg api.Register) audit.Finding {
	f := audit.Finding{At: -1}
	if book == nil {
		f.Err = wrongHandle
		return f
	}
	chained := true
	at, left := 0, []byte(log)
	for len(left) > 0 {
		payload, n, e := frame.First(left)
		var r api.Record
		var tag api.Hash
		if e == 0 {
			r, tag, e = journal.Read(book, payload)
		}
		if e != 0 {
			if chained {
				f.Err, f.At = e, at
			}
			return f
		}
		// A record that does not follow is told ahead of all that stands behind it; but all of it is read.
		if chained && at > 0 && !wantFollows(f.To, r) {
			chained = false
			f.Err, f.At = wrongChain, at
		}
		if chained {
			f.To = api.Head{Count: r.Count, Seq: r.Seq, Tag: tag, Root: r.Root}
			if at == 0 {
				f.From = f.To
			}
			f.Records++
		}
		at++
		left = left[n:]
	}
	if chained && (reg != api.Register{Count: f.To.Count, Tag: f.To.Tag}) {
		f.Err = wrongStale
	}
	return f
}

// wantReplay tells the map behind some records, the number, and the error: 26.3.
func wantReplay(book *digest.Book, entries []api.Entry, records []api.Record) (map[string]string, int, api.Errno) {
	if book == nil {
		return nil, 0, wrongHandle
	}
	m, ok := wantMap(entries)
	if !ok {
		return nil, 0, wrongOrder
	}
	for k, r := range records {
		if r.Kind == 2 {
			next, ok := wantBehind(m, r.Changes)
			if !ok {
				return nil, k, wrongInput
			}
			m = next
		}
		if root, _ := shape.Root(book, listed(m)); root != r.Root {
			return nil, k, wrongReplay
		}
	}
	return m, len(records), 0
}

// wantMap tells the map of entries, and whether they are a map's: 14.1.
func wantMap(entries []api.Entry) (map[string]string, bool) {
	m := map[string]string{}
	last := ""
	for i, x := range entries {
		key, value := string(x.Key), string(x.Value)
		if i > 0 && key <= last || len(key) > 32 || len(value) < 1 || len(value) > 256 {
			return nil, false
		}
		m[key], last = value, key
	}
	return m, true
}

// wantBehind tells the map behind changes, and whether all of them may be: 14.3.
func wantBehind(m map[string]string, changes []api.Change) (map[string]string, bool) {
	m = maps.Clone(m)
	for _, c := range changes {
		key, value := string(c.Key), string(c.Value)
		switch {
		case len(key) > 32, c.Gone && value != "", !c.Gone && value == "", len(value) > 256:
			return nil, false
		case c.Gone:
			delete(m, key)
		default:
			m[key] = value
		}
	}
	return m, true
}
