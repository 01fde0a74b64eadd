package audit_test

import (
	"bytes"
	"fmt"
	"maps"
	"slices"
	"strings"
	"testing"

	"cairn/api"
	"cairn/audit"
	"cairn/digest"
	"cairn/journal"
	"cairn/shape"
)

func rounds(most int) int {
	if testing.Short() {
		return most / 10
	}
	return most
}

// newBook makes a book whose secret is one byte, so many times.
func newBook(t *testing.T, bits, codeBits int, secret byte) *digest.Book {
	t.Helper()
	book, e := digest.New(bits, codeBits, bytes.Repeat([]byte{secret}, 32))
	if e != api.OK {
		t.Fatalf("a book of %d and %d bits: %d", bits, codeBits, e)
	}
	return book
}

// hasHashed tells whether a book has hashed a string.
func hasHashed(book *digest.Book, s string) bool {
	was, _ := book.Len()
	book.Hash([]byte(s))
	now, _ := book.Len()
	return now == was
}

// put and gone tell changes.
func put(key, value string) api.Change { return api.Change{Key: []byte(key), Value: []byte(value)} }

func gone(key string) api.Change { return api.Change{Key: []byte(key), Gone: true} }

// listed tells a map's entries, by their keys rising.
func listed(m map[string]string) []api.Entry {
	var l []api.Entry
	for _, k := range slices.Sorted(maps.Keys(m)) {
		l = append(l, api.Entry{Key: []byte(k), Value: []byte(m[k])})
	}
	return l
}

// changed tells the map behind changes that may be.
func changed(m map[string]string, changes ...api.Change) map[string]string {
	m = maps.Clone(m)
	if m == nil {
		m = map[string]string{}
	}
	for _, c := range changes {
		if c.Gone {
			delete(m, string(c.Key))
		} else {
			m[string(c.Key)] = string(c.Value)
		}
	}
	return m
}

// quill writes a log, record behind record, with some books at once; roots are by a book of its own.
type quill struct {
	t       *testing.T
	books   []*digest.Book
	plain   *digest.Book
	records []api.Record
	frames  []string
	heads   []api.Head          // the one behind each record
	maps    []map[string]string // the map behind each record
}

// head is where the log stands.
func (q *quill) head() api.Head {
	if len(q.heads) == 0 {
		return api.Head{Root: q.root(nil)}
	}
	return q.heads[len(q.heads)-1]
}

// now is the map as it stands.
func (q *quill) now() map[string]string {
	if len(q.maps) == 0 {
		return nil
	}
	return q.maps[len(q.maps)-1]
}

// reg is the register that stands for the last record.
func (q *quill) reg() api.Register { return registerOf(q.head()) }

func registerOf(h api.Head) api.Register { return api.Register{Count: h.Count, Tag: h.Tag} }

// root tells the root of a map's trie.
func (q *quill) root(m map[string]string) api.Hash {
	q.t.Helper()
	root, e := shape.Root(q.plain, listed(m))
	if e != api.OK {
		q.t.Fatalf("14.5: %d", e)
	}
	return root
}

// opening tells the record of an opening that follows, and batch that of a commit.
func (q *quill) opening() api.Record {
	h := q.head()
	return api.Record{Kind: api.Opened, Count: h.Count + 1, Seq: h.Seq, Prev: h.Tag, Root: h.Root}
}

func (q *quill) batch(changes ...api.Change) api.Record {
	h := q.head()
	root := q.root(changed(q.now(), changes...))
	return api.Record{Kind: api.Committed, Count: h.Count + 1, Seq: h.Seq + 1, Prev: h.Tag, Root: root, Changes: changes}
}

func (q *quill) open() *quill { return q.write(q.opening()) }

func (q *quill) commit(changes ...api.Change) *quill { return q.write(q.batch(changes...)) }

// write writes a record, whether it follows or not.
func (q *quill) write(r api.Record) *quill {
	q.t.Helper()
	var frame []byte
	var tag api.Hash
	for _, book := range q.books {
		var e api.Errno
		if frame, tag, e = journal.Write(book, r); e != api.OK {
			q.t.Fatalf("P19.3: Write(%s) answers %d", showRecord(r), e)
		}
	}
	q.records = append(q.records, r)
	q.frames = append(q.frames, string(frame))
	q.heads = append(q.heads, api.Head{Count: r.Count, Seq: r.Seq, Tag: tag, Root: r.Root})
	q.maps = append(q.maps, changed(q.now(), r.Changes...))
	return q
}

// log tells the bytes of all records.
func (q *quill) log() string { return strings.Join(q.frames, "") }

// begin tells where a record begins in the log (the one behind the last: where the log ends).
func (q *quill) begin(k int) int { return len(strings.Join(q.frames[:k], "")) }

// right tells what is found where all records of a part, from one on and up to another one, are right, and nothing is wrong.
func (q *quill) right(from, to int) audit.Finding {
	f := audit.Finding{Records: to - from, At: -1}
	if from < to {
		f.From, f.To = q.heads[from], q.heads[to-1]
	}
	return f
}

// wrong tells what is found where the first records are right, and something is wrong with the next one.
func (q *quill) wrong(right int, e api.Errno) audit.Finding {
	f := q.right(0, right)
	f.Err, f.At = e, right
	return f
}

// stale tells what is found where all records of the log are right, and the register is another one.
func (q *quill) stale() audit.Finding {
	f := q.right(0, len(q.frames))
	f.Err = api.ErrStale
	return f
}

// rig is a book, and the model's beside it, to which the same is done: whatever is called is held against the model.
type rig struct {
	t        *testing.T
	book, bk *digest.Book
	plain    *digest.Book // for what the test itself asks
	bits     [2]int
}

func newRig(t *testing.T, bits, codeBits int) *rig {
	t.Helper()
	r := &rig{t: t, bits: [2]int{bits, codeBits}}
	r.book, r.bk, r.plain = newBook(t, bits, codeBits, 0), newBook(t, bits, codeBits, 0), newBook(t, bits, codeBits, 0)
	return r
}

// quill is one that writes with the rig's books: no record of it is a forgery.
func (r *rig) quill() *quill {
	return &quill{t: r.t, books: []*digest.Book{r.book, r.bk}, plain: r.plain}
}

// stranger is one that writes with another book, of this secret.
func (r *rig) stranger(secret byte) *quill {
	r.t.Helper()
	return &quill{t: r.t, books: []*digest.Book{newBook(r.t, r.bits[0], r.bits[1], secret)}, plain: r.plain}
}

// fails ends the test.
func (r *rig) fails(format string, what ...any) {
	r.t.Helper()
	r.t.Fatalf("with %d bits: %s", r.bits, fmt.Sprintf(format, what...))
}

// roomy tells a copy of bytes whose spare room is filled: with the same bytes again, in which whole frames may stand.
func roomy(s string) []byte {
	return append([]byte(s), s+"\xca\x00\x00\x01\xff\xff\xfe\x09"...)[:len(s)]
}

// whole tells bytes with their spare room.
func whole(b []byte) string { return string(b[:cap(b)]) }

// fill writes one byte all over bytes and their spare room.
func fill(b []byte, x byte) {
	b = b[:cap(b)]
	for i := range b {
		b[i] = x
	}
}

// log looks at a log, and holds what is found against the model. What is handed in is spoiled then.
func (r *rig) log(log string, reg api.Register) audit.Finding {
	r.t.Helper()
	in := roomy(log)
	was := whole(in)
	got := audit.Log(r.book, in, reg)
	if whole(in) != was {
		r.fails("R3: the log that was handed in is changed")
	}
	fill(in, 0x66)
	if want := wantLog(r.bk, log, reg); got != want {
		r.fails("26.2: Log of %d bytes finds %s, not %s", len(log), showFinding(got), showFinding(want))
	}
	r.look()
	return got
}

// finds holds what is found in a log against what the test names.
func (r *rig) finds(promise, log string, reg api.Register, want audit.Finding) {
	r.t.Helper()
	if got := r.log(log, reg); got != want {
		r.fails("%s: Log finds %s, not %s", promise, showFinding(got), showFinding(want))
	}
}

// replay does batches again, and holds the answer against the model. What is handed in is spoiled then, and what is handed out too.
func (r *rig) replay(entries []api.Entry, records []api.Record) (map[string]string, int, api.Errno) {
	r.t.Helper()
	in := handIn(entries, records)
	got, n, e := audit.Replay(r.book, in.entries, in.records)
	if in.tell() != in.was {
		r.fails("R3: what was handed in to Replay is changed")
	}
	in.spoil()
	m, k, f := wantReplay(r.bk, entries, records)
	if showEntries(got) != showEntries(listed(m)) || n != k || e != f {
		r.fails("26.3: Replay of %d records over %d entries answers %s, %d, %d, not %s, %d, %d",
			len(records), len(entries), showEntries(got), n, e, showEntries(listed(m)), k, f)
	}
	for _, x := range got {
		fill(x.Key, 0x77)
		fill(x.Value, 0x77)
	}
	clear(got[:cap(got)])
	r.look()
	return m, n, e
}

// leads looks that batches done again lead to a map.
func (r *rig) leads(promise string, entries []api.Entry, records []api.Record, want map[string]string) {
	r.t.Helper()
	m, n, e := r.replay(entries, records)
	if e != api.OK || n != len(records) || !maps.Equal(m, want) {
		r.fails("%s: Replay answers %s, %d, %d, not %s, %d, 0", promise, showEntries(listed(m)), n, e, showEntries(listed(want)), len(records))
	}
}

// refuses looks that Replay ends with an error at a record.
func (r *rig) refuses(promise string, entries []api.Entry, records []api.Record, n int, e api.Errno) {
	r.t.Helper()
	if m, k, f := r.replay(entries, records); len(m) != 0 || k != n || f != e {
		r.fails("%s: Replay answers %d entries, %d, %d, not none, %d, %d", promise, len(m), k, f, n, e)
	}
}

// look holds what the book knows of codes against what the model's does.
func (r *rig) look() {
	r.t.Helper()
	_, coded := r.book.Len()
	if _, n := r.bk.Len(); coded != n {
		r.fails("R7: %d bodies are coded, not %d", coded, n)
	}
	same := func(a, b api.Forgery) bool { return string(a.Body) == string(b.Body) && a.Code == b.Code }
	if got, want := r.book.Forgeries(), r.bk.Forgeries(); !slices.EqualFunc(got, want, same) {
		r.fails("P4.5: the book has %d forgeries, not %d", len(got), len(want))
	}
}

// handed is what is handed in to Replay: all of its lists have spare room that counts nothing.
type handed struct {
	entries []api.Entry
	records []api.Record
	was     string
}

func handIn(entries []api.Entry, records []api.Record) *handed {
	h := &handed{}
	for _, x := range entries {
		h.entries = append(h.entries, api.Entry{Key: roomy(string(x.Key)), Value: roomy(string(x.Value))})
	}
	h.entries = append(h.entries, api.Entry{Key: roomy("\xff spare"), Value: roomy("room")})[:len(entries)]
	for _, x := range records {
		changes := x.Changes
		x.Changes = nil
		for _, c := range changes {
			x.Changes = append(x.Changes, api.Change{Key: roomy(string(c.Key)), Value: roomy(string(c.Value)), Gone: c.Gone})
		}
		x.Changes = append(x.Changes, put("spare", "room"), api.Change{Gone: true})[:len(changes)]
		h.records = append(h.records, x)
	}
	h.records = append(h.records, api.Record{Kind: api.Committed, Changes: []api.Change{put("spare", "room")}})[:len(records)]
	h.was = h.tell()
	return h
}

// tell tells all that was handed in, spare room too.
func (h *handed) tell() string {
	var out []string
	for _, x := range h.entries[:cap(h.entries)] {
		out = append(out, fmt.Sprintf("%x %d %x %d", x.Key[:cap(x.Key)], len(x.Key), x.Value[:cap(x.Value)], len(x.Value)))
	}
	for _, r := range h.records[:cap(h.records)] {
		out = append(out, showRecord(r))
		for _, c := range r.Changes[:cap(r.Changes)] {
			out = append(out, fmt.Sprintf("%x %d %x %d %v", c.Key[:cap(c.Key)], len(c.Key), c.Value[:cap(c.Value)], len(c.Value), c.Gone))
		}
	}
	return strings.Join(out, "\n")
}

// spoil writes over all that was handed in: whoever has kept it loses it.
func (h *handed) spoil() {
	for _, x := range h.entries[:cap(h.entries)] {
		fill(x.Key, 0x66)
		fill(x.Value, 0x66)
	}
	for _, r := range h.records[:cap(h.records)] {
		for _, c := range r.Changes[:cap(r.Changes)] {
			fill(c.Key, 0x66)
			fill(c.Value, 0x66)
		}
		clear(r.Changes[:cap(r.Changes)])
	}
	clear(h.entries[:cap(h.entries)])
	clear(h.records[:cap(h.records)])
}

// What messages show.

func showHead(h api.Head) string {
	return fmt.Sprintf("{%d %d %.4x %.4x}", h.Count, h.Seq, h.Tag, h.Root)
}

func showFinding(f audit.Finding) string {
	return fmt.Sprintf("{%d, %s, %s, %d, %d}", f.Records, showHead(f.From), showHead(f.To), f.Err, f.At)
}

// showRecord and showEntries tell all that counts: what is one has one text.
func showRecord(r api.Record) string {
	out := fmt.Sprintf("kind %d count %d seq %d prev %x root %x", r.Kind, r.Count, r.Seq, r.Prev, r.Root)
	for _, c := range r.Changes {
		out += fmt.Sprintf(" [%x %x %v]", c.Key, c.Value, c.Gone)
	}
	return out
}

func showEntries(l []api.Entry) string {
	var out []string
	for _, x := range l {
		out = append(out, fmt.Sprintf("%x: %x", x.Key, x.Value))
	}
	return "[" + strings.Join(out, ", ") + "]"
}
