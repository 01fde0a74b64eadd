package seal_test

import (
	"crypto/sha256"

	"cairn/api"
	"cairn/digest"
	"cairn/journal"
	"cairn/media"
)

// The model is the chapter written down a second time, over a device and a book of its own to which the same is done. It goes
// forward over the log's records and never looks back, and ends a call at the first thing that is wrong.

// The greatest counter, and the errors, by their numbers.
const (
	greatestCount = 1 << 40

	wrongHandle = 1
	wrongFull   = 6
	wrongFailed = 7
	wrongStale  = 200
	wrongCount  = 201
)

// stop is the error that ends a call of the model.
type stop api.Errno

// model is what a session should be.
type model struct {
	d      *media.Device
	book   *digest.Book
	bits   int
	head   api.Head
	failed bool
	coded  []string // the bodies that it had coded
}

// hashOf is the published hash of a string, of which the first bits count.
func hashOf(bits int, s string) api.Hash {
	h := api.Hash(sha256.Sum256([]byte(s)))
	for i := bits; i < 256; i++ {
		h[i/8] &^= 128 >> (i % 8)
	}
	return h
}

// must ends the call, unless the device has done what it was asked: 20.1.
func must(e api.Errno) {
	switch e {
	case 0:
		return
	case 82, 83:
		panic(stop(wrongStale))
	}
	panic(stop(e))
}

// ended runs a call of the model, and tells the error that has ended it.
func ended(call func()) (e api.Errno) {
	defer func() {
		switch x := recover().(type) {
		case nil:
		case stop:
			e = api.Errno(x)
		default:
			panic(x)
		}
	}()
	call()
	return 0
}

// records reads the log, and tells its bytes and its records.
func (m *model) records() ([]byte, []journal.Entry) {
	log, e := m.d.Read()
	must(e)
	all, _ := journal.Scan(m.book, log)
	return log, all
}

// write tells the frame and the code of a record.
func (m *model) write(r api.Record) ([]byte, api.Hash) {
	w, tag, e := journal.Write(m.book, r)
	must(e)
	m.coded = append(m.coded, string(w[7:len(w)-32]))
	return w, tag
}

// wantFollows tells whether a Committed record follows a head.
func wantFollows(h api.Head, r api.Record) bool {
	return r.Kind == 2 && r.Count == h.Count+1 && r.Seq == h.Seq+1 && r.Prev == h.Tag
}

// open is 20.2; the model is a session then, at the head.
func (m *model) open() api.Errno {
	return ended(func() {
		reg, e := m.d.Reg()
		must(e)
		log, all := m.records()
		h, b, kept := api.Head{Root: hashOf(m.bits, "\x80")}, 0, 0
		next, seen := all, reg.Count == 0
		for i, x := range all {
			if reg.Count > 0 && x.Record.Count == reg.Count && x.Tag == reg.Tag {
				h, b, kept = api.Head{Count: x.Record.Count, Seq: x.Record.Seq, Tag: x.Tag, Root: x.Record.Root}, x.Begin, x.End
				next, seen = all[i+1:], true
			}
		}
		if !seen {
			panic(stop(wrongStale))
		}
		if len(next) > 0 && wantFollows(h, next[0].Record) {
			h, kept = api.Head{Count: h.Count + 1, Seq: h.Seq + 1, Tag: next[0].Tag, Root: next[0].Record.Root}, next[0].End
		}
		if h.Count >= greatestCount {
			panic(stop(wrongCount))
		}
		if len(log) > kept {
			must(m.d.Cut(kept))
		}
		w, tag := m.write(api.Record{Kind: 1, Count: h.Count + 1, Seq: h.Seq, Prev: h.Tag, Root: h.Root})
		e = m.d.Append(w)
		if e == wrongFull && b > 0 {
			must(m.d.Trim(b))
			e = m.d.Append(w)
		}
		must(e)
		must(m.d.SetReg(api.Register{Count: h.Count + 1, Tag: tag}))
		m.head = api.Head{Count: h.Count + 1, Seq: h.Seq, Tag: tag, Root: h.Root}
	})
}

// session runs a call of a session that may have failed, and tells the error: 20.1.
func (m *model) session(call func()) api.Errno {
	if m.failed {
		return wrongFailed
	}
	e := ended(call)
	if e == 3 || e == wrongStale {
		m.failed = true
	}
	return e
}

// upToHead tells the log's records up to the last one with the head's Count and Tag.
func (m *model) upToHead() []journal.Entry {
	_, all := m.records()
	n := 0
	for i, x := range all {
		if x.Record.Count == m.head.Count && x.Tag == m.head.Tag {
			n = i + 1
		}
	}
	if n == 0 {
		panic(stop(wrongStale))
	}
	return all[:n]
}

// commit is 20.3.
func (m *model) commit(root api.Hash, changes []api.Change) (answer api.Head, e api.Errno) {
	e = m.session(func() {
		if m.head.Count >= greatestCount {
			panic(stop(wrongCount))
		}
		w, tag := m.write(api.Record{Kind: 2, Count: m.head.Count + 1, Seq: m.head.Seq + 1, Prev: m.head.Tag, Root: root, Changes: changes})
		e := m.d.Append(w)
		if e == wrongFull {
			l := m.upToHead()
			if b := l[len(l)-1].Begin; b > 0 {
				must(m.d.Trim(b))
				e = m.d.Append(w)
			}
		}
		must(e)
		must(m.d.SetReg(api.Register{Count: m.head.Count + 1, Tag: tag}))
		m.head = api.Head{Count: m.head.Count + 1, Seq: m.head.Seq + 1, Tag: tag, Root: root}
		answer = m.head
	})
	return answer, e
}

// check is 20.4.
func (m *model) check() api.Errno {
	return m.session(func() {
		reg, e := m.d.Reg()
		must(e)
		if reg.Count != m.head.Count || reg.Tag != m.head.Tag {
			panic(stop(wrongStale))
		}
	})
}

// history is 20.6.
func (m *model) history() (records []api.Record, e api.Errno) {
	e = m.session(func() {
		for _, x := range m.upToHead() {
			records = append(records, x.Record)
		}
	})
	return records, e
}
