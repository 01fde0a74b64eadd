package audit_test

import (
	"fmt"
	"maps"
	"math/rand"
	"strings"
	"testing"

	"cairn/api"
	"cairn/audit"
	"cairn/digest"
	"cairn/journal"
	"cairn/media"
	"cairn/store"
)

// house is a device with one store behind another at it, and beside them what the map is behind each batch.
type house struct {
	t        *testing.T
	codeBits int
	book     *digest.Book
	d        *media.Device
	s        *store.Store
	maps     []map[string]string // the map by how many batches have been committed
	maybe    map[string]string   // what a commit that went down would have made
	trimmed  int                 // how many audits saw a log that begins later than the first record
	story    []string
}

func newHouse(t *testing.T, room, codeBits int) *house {
	t.Helper()
	d, e := media.New(400, room)
	if e != api.OK {
		t.Fatalf("a device: %d", e)
	}
	return &house{t: t, codeBits: codeBits, book: newBook(t, 256, codeBits, 0), d: d, maps: []map[string]string{nil}}
}

func (h *house) tell(format string, what ...any) {
	h.story = append(h.story, fmt.Sprintf(format, what...))
}

// fails ends the test.
func (h *house) fails(format string, what ...any) {
	h.t.Helper()
	tale := strings.Join(h.story[max(0, len(h.story)-30):], ", ")
	h.t.Fatalf("%s\nbehind %s", fmt.Sprintf(format, what...), tale)
}

// now is the map as it stands.
func (h *house) now() map[string]string { return h.maps[len(h.maps)-1] }

// open opens the next store, and settles what a commit that went down has left.
func (h *house) open() api.Errno {
	h.t.Helper()
	h.tell("open")
	s, e := store.Open(h.d, h.book, 4)
	if e != api.OK {
		return e
	}
	h.s = s
	if n := int(s.Report().Head.Seq); n == len(h.maps) && h.maybe != nil {
		h.maps = append(h.maps, h.maybe)
	} else if n != len(h.maps)-1 {
		h.fails("W3: an opening shows %d batches, not %d", n, len(h.maps)-1)
	}
	h.maybe = nil
	return api.OK
}

// commit does a batch, and settles nothing if it goes down.
func (h *house) commit(changes ...api.Change) api.Errno {
	h.t.Helper()
	h.tell("commit of %d", len(changes))
	for _, c := range changes {
		e := api.OK
		if c.Gone {
			e = h.s.Delete(c.Key)
		} else {
			e = h.s.Put(c.Key, c.Value)
		}
		if e != api.OK {
			h.fails("23.3: a change: %d", e)
		}
	}
	_, e := h.s.Commit()
	switch e {
	case api.OK:
		h.maps = append(h.maps, changed(h.now(), changes...))
	case api.ErrDown:
		h.maybe = changed(h.now(), changes...)
	default:
		h.fails("23.3: a commit: %d", e)
	}
	return e
}

// down lays choices behind some honest ones, opens or commits till they have taken the device down, and sets it up again.
func (h *house) down(at int, c api.Choice, call func() api.Errno) {
	h.t.Helper()
	h.d.Choose(append(make([]api.Choice, at), c)...)
	h.tell("%v at access %d", c, at)
	e := call()
	if h.d.Down() != (e == api.ErrDown) {
		h.fails("20.1: a call answers %d, and the device is down: %v", e, h.d.Down())
	}
	h.d.Choose()
	h.d.Up()
}

// audit looks at what stands on the device: 26.4; and does the batches again: 26.5, W8.
func (h *house) audit() *quill {
	h.t.Helper()
	m, head := h.d.Media(), h.s.Report().Head
	r := newRig(h.t, 256, h.codeBits)
	f := r.log(string(m.Log), m.Reg)
	_, coded := h.book.Len()
	if own := audit.Log(h.book, m.Log, m.Reg); own != f {
		h.fails("R5: by its own book Log finds %s, not %s", showFinding(own), showFinding(f))
	}
	if _, n := h.book.Len(); n != coded || h.codeBits == 256 && !h.book.Sound() {
		h.fails("26.4: by its own book the log has a forgery")
	}
	records, e := h.s.History()
	if e != api.OK || f != (audit.Finding{Records: len(records), From: f.From, To: head, At: -1}) {
		h.fails("26.4: Log finds %s, not %d records up to %s", showFinding(f), len(records), showHead(head))
	}
	ahead := h.maps[f.From.Seq]
	if records[0].Kind == api.Committed {
		ahead = h.maps[f.From.Seq-1]
	}
	if f.From.Count > 1 {
		h.trimmed++
	} else if len(ahead) != 0 {
		h.fails("26.5: the first record has the count %d", f.From.Count)
	}
	r.leads("26.5", listed(ahead), records, h.now())
	if root := (&quill{t: h.t, plain: r.plain}).root(h.now()); root != head.Root || records[len(records)-1].Root != root {
		h.fails("W8: the root of the batches done again is another one")
	}
	h.inTwo(r, ahead, records)
	return h.quill(r, string(m.Log))
}

// inTwo does the batches again in two goes, wherever the first one ends.
func (h *house) inTwo(r *rig, ahead map[string]string, records []api.Record) {
	h.t.Helper()
	step := 1 + len(records)/2
	for n := 0; n <= len(records); n += step {
		first, k, e := audit.Replay(r.book, listed(ahead), records[:n])
		if e != api.OK || k != n {
			h.fails("26.5: the first %d records answer %d, %d", n, k, e)
		}
		r.leads("26.5: in two goes", first, records[n:], h.now())
	}
}

// quill tells one that might have written a log.
func (h *house) quill(r *rig, log string) *quill {
	q := &quill{t: h.t, plain: r.plain, books: []*digest.Book{r.plain}}
	all, _ := journal.Scan(r.plain, []byte(log))
	for _, x := range all {
		q.records = append(q.records, x.Record)
		q.frames = append(q.frames, log[x.Begin:x.End])
		q.heads = append(q.heads, api.Head{Count: x.Record.Count, Seq: x.Record.Seq, Tag: x.Tag, Root: x.Record.Root})
	}
	if q.log() != log {
		h.fails("P19.5: a log is more than its records")
	}
	return q
}

// someKey and someChanges tell keys and changes of chance, from so few keys that they meet.
func someKey(rnd *rand.Rand) string {
	return strings.Repeat([]string{"a", "b", "ab", "\x00", "\xff"}[rnd.Intn(5)], rnd.Intn(4))
}

func someChanges(rnd *rand.Rand, most int) []api.Change {
	var out []api.Change
	for range rnd.Intn(most + 1) {
		if rnd.Intn(3) == 0 {
			out = append(out, gone(someKey(rnd)))
			continue
		}
		out = append(out, put(someKey(rnd), strings.Repeat(string(rune('a'+rnd.Intn(26))), 1+rnd.Intn(40))))
	}
	return out
}

func TestTheHouseSeesMaps(t *testing.T) {
	h := newHouse(t, 60000, 256)
	if h.open() != api.OK || h.commit(put("a", "1"), put("b", "2")) != api.OK || h.commit(gone("a")) != api.OK {
		t.Fatal("a session")
	}
	h.audit()
	if !maps.Equal(h.now(), map[string]string{"b": "2"}) || len(h.maps) != 3 || h.trimmed != 0 {
		t.Errorf("another map: %v", h.now())
	}
}
