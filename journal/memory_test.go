package journal_test

import (
	"bytes"
	"slices"
	"strconv"
	"sync"
	"testing"

	"cairn/api"
	"cairn/journal"
)

// heap is all memory that some calls were handed, and have handed out.
type heap struct {
	bytes   [][]byte
	changes [][]api.Change
	entries [][]journal.Entry
}

// record adds what a record leads to, spare room too.
func (h *heap) record(r api.Record) {
	h.changes = append(h.changes, r.Changes)
	for _, c := range r.Changes[:cap(r.Changes)] {
		h.bytes = append(h.bytes, c.Key, c.Value)
	}
}

// list adds what entries lead to, spare room too.
func (h *heap) list(l []journal.Entry) {
	h.entries = append(h.entries, l)
	for _, x := range l[:cap(l)] {
		h.record(x.Record)
	}
}

// shares writes a mark of its own into each list, spare room too, and tells whether one of them has lost its mark. The mark of
// bytes is one byte: so it is done twice, and no two lists have the same mark both times.
func (h *heap) shares() bool {
	lost := false
	for _, marks := range []int{251, 241} {
		for i, b := range h.bytes {
			fill(b, byte(i%marks))
		}
		for i, b := range h.bytes {
			lost = lost || slices.ContainsFunc(b[:cap(b)], func(x byte) bool { return x != byte(i%marks) })
		}
	}
	for i, l := range h.changes {
		for k := range l[:cap(l)] {
			l[:cap(l)][k] = api.Change{Key: []byte(strconv.Itoa(i))}
		}
	}
	for i, l := range h.changes {
		lost = lost || slices.ContainsFunc(l[:cap(l)], func(c api.Change) bool { return string(c.Key) != strconv.Itoa(i) })
	}
	for i, l := range h.entries {
		for k := range l[:cap(l)] {
			l[:cap(l)][k] = journal.Entry{Begin: i}
		}
	}
	for i, l := range h.entries {
		lost = lost || slices.ContainsFunc(l[:cap(l)], func(x journal.Entry) bool { return x.Begin != i })
	}
	return lost
}

// manyRecords tells records with changes of all lengths.
func manyRecords() []api.Record {
	return append(few(), longest(), committed(9, 9, edgeChanges()[6:38]...), committed(3, 1, slices.Repeat([]api.Change{put("k", "v")}, 5)...), committed(3, 1, slices.Repeat([]api.Change{gone("")}, 17)...))
}

func TestTheRigSeesWhatIsShared(t *testing.T) {
	b := []byte("some bytes")
	l := []api.Change{{Key: b}}
	for i, h := range []*heap{
		{bytes: [][]byte{b[:3], b[5:]}},
		{bytes: [][]byte{b[:0], b}},
		{changes: [][]api.Change{l, l[:0]}},
		{entries: [][]journal.Entry{make([]journal.Entry, 1)}, bytes: [][]byte{b, b}},
	} {
		if !h.shares() {
			t.Errorf("heap %d is said to share nothing", i)
		}
	}
	if (&heap{bytes: [][]byte{b[:3:3], b[3:]}, changes: [][]api.Change{l}}).shares() {
		t.Errorf("what is apart is said to share")
	}
}

func TestBodyAnswersNewMemory(t *testing.T) {
	for _, r := range manyRecords() {
		in := handIn(r)
		one, _ := journal.Body(in.r)
		two, _ := journal.Body(in.r)
		want, _ := wantBody(r)
		h := &heap{bytes: [][]byte{one, two}}
		h.record(in.r)
		in.takeBack(t)
		if string(one) != want || string(two) != want {
			t.Errorf("R3: the body of %.200s hangs on what became of the record", show(r))
		}
		if h.shares() {
			t.Errorf("R3: the body of %.200s shares memory", show(r))
		}
	}
}

func TestWriteAnswersNewMemory(t *testing.T) {
	s := newShelf(t, 256)
	for _, r := range manyRecords() {
		in := handIn(r)
		one, tag, _ := journal.Write(s.book, in.r)
		two, _, _ := journal.Write(s.book, in.r)
		body, _ := wantBody(r)
		want := framed(s.coded(body))
		s.known[body] = tag
		h := &heap{bytes: [][]byte{one, two}}
		h.record(in.r)
		in.takeBack(t)
		if string(one) != want || string(two) != want {
			t.Errorf("R3: the frame of %.200s hangs on what became of the record", show(r))
		}
		if h.shares() {
			t.Errorf("R3: the frame of %.200s shares memory", show(r))
		}
		s.reads("R3: the book hangs on what was handed out", want[7:], r)
	}
}

func TestReadAnswersNewMemory(t *testing.T) {
	for _, coded := range []bool{true, false} {
		s := newShelf(t, 256)
		for _, r := range manyRecords() {
			body, _ := wantBody(r)
			if coded {
				s.notes(body)
			}
			s.accepts(body)
			in := roomy(s.coded(body))
			was := bytes.Clone(in[:cap(in)])
			one, _, e := journal.Read(s.book, in)
			two, _, f := journal.Read(s.book, in)
			if e != api.OK || f != api.OK || !bytes.Equal(in[:cap(in)], was) {
				t.Errorf("R3: Read of %.200s: %d, %d, or the payload is changed", show(r), e, f)
			}
			fill(in, 0x66)
			if show(one) != show(r) || show(two) != show(r) {
				t.Errorf("R3: the record %.200s hangs on what became of the payload", show(r))
			}
			h := &heap{bytes: [][]byte{in}}
			h.record(one)
			h.record(two)
			if h.shares() {
				t.Errorf("R3: the record %.200s shares memory", show(r))
			}
		}
	}
}

func TestScanAnswersNewMemory(t *testing.T) {
	s := newShelf(t, 256)
	for n := range len(manyRecords()) + 1 {
		log := joined(s.frames(manyRecords()[:n]...))
		for _, end := range []string{"", "\xca", "\x00"} {
			in := roomy(log + end)
			was := bytes.Clone(in[:cap(in)])
			one, _ := journal.Scan(s.book, in)
			two, _ := journal.Scan(s.book, in)
			if !bytes.Equal(in[:cap(in)], was) {
				t.Errorf("R3: Scan has changed the log")
			}
			fill(in, 0x66)
			want, _ := s.wantScan(log + end)
			if !slices.Equal(told(one), want) || !slices.Equal(told(two), want) || len(want) != n {
				t.Errorf("R3: the entries of a log of %d records hang on what became of it", n)
			}
			h := &heap{bytes: [][]byte{in}}
			h.list(one)
			h.list(two)
			if h.shares() {
				t.Errorf("R3: the entries of a log of %d records share memory", n)
			}
		}
	}
}

// Whoever appends to what was handed out writes into nothing else.
func TestAnswersMayGrow(t *testing.T) {
	s := newShelf(t, 256)
	log := joined(s.frames(manyRecords()...))
	want, _ := s.wantScan(log)
	entries, _ := journal.Scan(s.book, []byte(log))
	for _, x := range entries {
		for _, c := range x.Record.Changes {
			_ = append(c.Key, "beyond its end"...)
			_ = append(c.Value, "beyond its end"...)
		}
		_ = append(x.Record.Changes, put("beyond", "its end"))
	}
	_ = append(entries, journal.Entry{Begin: -1})
	if !slices.Equal(told(entries), want) {
		t.Errorf("R3: entries change as others are appended to")
	}
}

// Follows neither changes nor keeps what it is handed.
func TestFollowsLeavesAll(t *testing.T) {
	h := api.Head{Count: 4, Seq: 2, Tag: hashed("t"), Root: hashed("q")}
	for _, kind := range []int{0, api.Opened, api.Committed} {
		in := handIn(next(kind, h))
		in.r.Changes = append(in.r.Changes, put("k", "v"))
		in.was = in.tell()
		for range 3 {
			if journal.Follows(h, in.r) != (kind != 0) {
				t.Errorf("P19.6: kind %d", kind)
			}
		}
		in.takeBack(t)
	}
}

// Spare room counts nothing: bytes that go on behind their end are as those that do not.
func TestSpareRoomCountsNothing(t *testing.T) {
	s := newShelf(t, 256)
	whole := s.frames(few()[4], few()[5])
	log := []byte(joined(whole))
	for n := range log {
		got, e := journal.Scan(s.book, log[:n])
		want, wrong := s.wantScan(string(log[:n]))
		if !slices.Equal(told(got), want) || e != wrong {
			t.Errorf("R3: Scan of %d bytes within a longer log: %d entries, %d", n, len(got), e)
		}
	}
	payload := []byte(whole[0][7:])
	for n := range payload {
		if r, _, e := journal.Read(s.book, payload[:n]); e != api.ErrRecord || show(r) != zeroRecord {
			t.Errorf("R3: Read of %d bytes within a longer payload: %s, %d", n, show(r), e)
		}
	}
}

// One book may be worked on from many sides: what each call answers does not hang on the others.
func TestManyAtATime(t *testing.T) {
	s := newShelf(t, 256)
	all := manyRecords()
	log := joined(s.frames(all...))
	want, _ := s.wantScan(log)
	var group sync.WaitGroup
	for range 8 {
		group.Go(func() {
			in := []byte(log)
			entries, e := journal.Scan(s.book, in)
			if e != api.OK || !slices.Equal(told(entries), want) {
				t.Errorf("R5: Scan: %d entries, %d", len(entries), e)
			}
			for i, r := range all {
				w, tag, e := journal.Write(s.book, r)
				if e != api.OK || tag != want[i].tag || string(w) != log[want[i].begin:want[i].end] {
					t.Errorf("R5: Write of %.200s: %d", show(r), e)
				}
				got, tag, e := journal.Read(s.book, w[7:])
				if e != api.OK || tag != want[i].tag || show(got) != show(r) {
					t.Errorf("R5: Read of %.200s: %d", show(r), e)
				}
			}
		})
	}
	group.Wait()
}
