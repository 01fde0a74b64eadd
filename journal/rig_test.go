package journal_test

import (
	"bytes"
	"fmt"
	"math/rand"
	"slices"
	"strings"
	"testing"

	"cairn/api"
	"cairn/digest"
	"cairn/journal"
)

// zeros is a secret.
var zeros = strings.Repeat("\x00", 32)

// sized tells so many bytes, no two of which in a row are alike.
func sized(n int) string {
	out := make([]byte, n)
	for i := range out {
		out[i] = byte(i*7 + n)
	}
	return string(out)
}

// hashed tells 32 bytes that begin with some.
func hashed(s string) (h api.Hash) {
	copy(h[:], s)
	return h
}

// put and gone tell changes.
func put(key, value string) api.Change { return api.Change{Key: []byte(key), Value: []byte(value)} }

func gone(key string) api.Change { return api.Change{Key: []byte(key), Gone: true} }

// opened tells the record of an opening.
func opened(count, seq int64) api.Record {
	return api.Record{Kind: api.Opened, Count: count, Seq: seq, Prev: hashed("prev"), Root: hashed(sized(32))}
}

// committed tells the record of a commit.
func committed(count, seq int64, changes ...api.Change) api.Record {
	return api.Record{Kind: api.Committed, Count: count, Seq: seq, Prev: hashed(sized(32)), Root: hashed("root"), Changes: changes}
}

// show tells a record as a text: two that are one have one text.
func show(r api.Record) string {
	out := fmt.Sprintf("kind %d count %d seq %d prev %x root %x", r.Kind, r.Count, r.Seq, r.Prev, r.Root)
	for _, c := range r.Changes {
		out += fmt.Sprintf(" [%x %x %v]", c.Key, c.Value, c.Gone)
	}
	return out
}

// zeroRecord is the text of the zero record.
var zeroRecord = show(api.Record{})

// fill writes one byte all over bytes and their spare room.
func fill(b []byte, x byte) {
	b = b[:cap(b)]
	for i := range b {
		b[i] = x
	}
}

// roomy tells a copy of bytes whose spare room is filled with marks.
func roomy(s string) []byte {
	return append([]byte(s), 202, 0, 0, 1, 255, 255, 254, 9, 128, 192)[:len(s)]
}

// handed is a record that is handed in: all of its lists have spare room that counts nothing.
type handed struct {
	r   api.Record
	was string
}

func handIn(r api.Record) *handed {
	h := &handed{r: r}
	h.r.Changes = nil
	for _, c := range r.Changes {
		h.r.Changes = append(h.r.Changes, api.Change{Key: roomy(string(c.Key)), Value: roomy(string(c.Value)), Gone: c.Gone})
	}
	h.r.Changes = append(h.r.Changes, api.Change{Key: roomy("spare"), Value: roomy("room")}, api.Change{Gone: true})[:len(r.Changes)]
	h.was = h.tell()
	return h
}

// tell tells all that was handed in, spare room too.
func (h *handed) tell() string {
	out := []string{show(h.r)}
	for _, c := range h.r.Changes[:cap(h.r.Changes)] {
		out = append(out, fmt.Sprintf("%x %d %x %d %v", c.Key[:cap(c.Key)], len(c.Key), c.Value[:cap(c.Value)], len(c.Value), c.Gone))
	}
	return strings.Join(out, "\n")
}

// takeBack looks whether what was handed in is as it was, and spoils it: whoever has kept it loses it.
func (h *handed) takeBack(t *testing.T) {
	t.Helper()
	if h.tell() != h.was {
		t.Errorf("R3: a record that was handed in is changed: %s", h.was)
	}
	for _, c := range h.r.Changes[:cap(h.r.Changes)] {
		fill(c.Key, 0x66)
		fill(c.Value, 0x66)
	}
	clear(h.r.Changes[:cap(h.r.Changes)])
}

// lend hands bytes to a call, looks whether they are as they were, and spoils them.
func lend(t *testing.T, s string, call func(b []byte)) {
	t.Helper()
	in := roomy(s)
	was := bytes.Clone(in[:cap(in)])
	call(in)
	if !bytes.Equal(in[:cap(in)], was) {
		t.Errorf("R3: %d bytes that were handed in are changed", len(s))
	}
	fill(in, 0x66)
}

// brief tells the beginning of bytes, so that a message stays short.
func brief(s string) string { return fmt.Sprintf("%.60x (%d bytes)", s, len(s)) }

// asksBody holds Body against the model.
func asksBody(t *testing.T, r api.Record) string {
	t.Helper()
	in := handIn(r)
	b, e := journal.Body(in.r)
	in.takeBack(t)
	want, wrong := wantBody(r)
	if string(b) != want || e != wrong {
		t.Errorf("P19.1, P19.2: Body(%.300s) = %s, %d, not %s, %d", show(r), brief(string(b)), e, brief(want), wrong)
	}
	return string(b)
}

// shelf is a book, and what it must have coded and found forged by what was asked of it.
type shelf struct {
	t      *testing.T
	book   *digest.Book
	bits   int
	secret string
	known  map[string]api.Hash
	forged map[string]api.Hash
}

func newShelf(t *testing.T, bits int) *shelf { return newShelfOf(t, bits, zeros) }

func newShelfOf(t *testing.T, bits int, secret string) *shelf {
	t.Helper()
	book, e := digest.New(256, bits, []byte(secret))
	if e != api.OK {
		t.Fatalf("P4.1: a book of %d bits: %d", bits, e)
	}
	s := &shelf{t: t, book: book, bits: bits, secret: secret, known: map[string]api.Hash{}, forged: map[string]api.Hash{}}
	t.Cleanup(s.settle)
	return s
}

// settle looks whether the book has coded just what it should have, and has found forged just what it should have.
func (s *shelf) settle() {
	s.t.Helper()
	if _, n := s.book.Len(); n != len(s.known) {
		s.t.Errorf("R7: %d bodies were coded, not %d", n, len(s.known))
	}
	forgeries := s.book.Forgeries()
	for _, f := range forgeries {
		if code, is := s.forged[string(f.Body)]; !is || code != f.Code {
			s.t.Errorf("P19.4: %s is no forgery", brief(string(f.Body)))
		}
	}
	if len(forgeries) != len(s.forged) {
		s.t.Errorf("P19.4: %d forgeries, not %d", len(forgeries), len(s.forged))
	}
	for body, code := range s.known {
		if s.book.Code([]byte(body)) != code {
			s.t.Errorf("P19.3: the code of %s", brief(body))
		}
	}
	if _, n := s.book.Len(); n != len(s.known) {
		s.t.Errorf("R7: other bodies were coded than those of the records")
	}
}

// notes has the book code a body, without any record.
func (s *shelf) notes(body string) {
	s.known[body] = s.book.Code([]byte(body))
}

// accepts notes what the book must have noted as a body was accepted.
func (s *shelf) accepts(body string) {
	if _, is := s.known[body]; !is {
		s.forged[body] = wantCode(s.bits, s.secret, body)
	}
}

// write holds Write against the model.
func (s *shelf) write(r api.Record) (string, api.Hash) {
	s.t.Helper()
	in := handIn(r)
	b, tag, e := journal.Write(s.book, in.r)
	in.takeBack(s.t)
	body, wrong := wantBody(r)
	var want string
	var code api.Hash
	if wrong == 0 {
		want, code = framed(s.coded(body)), wantCode(s.bits, s.secret, body)
		s.known[body] = code
	}
	if string(b) != want || tag != code || e != wrong {
		s.t.Errorf("P19.3: Write(%.300s) = %s, %x, %d, not %s, %x, %d", show(r), brief(string(b)), tag, e, brief(want), code, wrong)
	}
	return string(b), tag
}

// read holds Read against the model.
func (s *shelf) read(payload string) (string, api.Errno) {
	s.t.Helper()
	var r api.Record
	var tag api.Hash
	var e api.Errno
	lend(s.t, payload, func(b []byte) { r, tag, e = journal.Read(s.book, b) })
	want, code, wrong := s.wantRead(payload)
	if wrong == 0 {
		s.accepts(payload[:len(payload)-32])
	}
	if show(r) != show(want) || tag != code || e != wrong {
		s.t.Errorf("P19.4: Read(%s) = %.300s, %x, %d, not %.300s, %x, %d", brief(payload), show(r), tag, e, show(want), code, wrong)
	}
	return show(r), e
}

// refuses looks that Read refuses a payload with an error.
func (s *shelf) refuses(what, payload string, e api.Errno) {
	s.t.Helper()
	if got, f := s.read(payload); f != e || got != zeroRecord {
		s.t.Errorf("P19.4: %s: Read(%s) = %.300s, %d, not error %d", what, brief(payload), got, f, e)
	}
}

// reads looks that Read tells a record of a payload.
func (s *shelf) reads(what, payload string, r api.Record) {
	s.t.Helper()
	if got, e := s.read(payload); e != api.OK || got != show(r) {
		s.t.Errorf("P19.4: %s: Read(%s) = %.300s, %d, not %.300s", what, brief(payload), got, e, show(r))
	}
}

// scan holds Scan against the model.
func (s *shelf) scan(log string) ([]found, api.Errno) {
	s.t.Helper()
	var entries []journal.Entry
	var e api.Errno
	lend(s.t, log, func(b []byte) { entries, e = journal.Scan(s.book, b) })
	got := told(entries)
	want, wrong := s.wantScan(log)
	for _, f := range want {
		s.accepts(log[f.begin+7 : f.end-32])
	}
	if !slices.Equal(got, want) || e != wrong {
		s.t.Errorf("P19.5: Scan(%s) = %d entries, %d, not %d entries, %d", brief(log), len(got), e, len(want), wrong)
	}
	return got, e
}

// scans looks that Scan tells just some frames, which stand at the log's beginning, and an error.
func (s *shelf) scans(what, log string, frames []string, e api.Errno) {
	s.t.Helper()
	got, f := s.scan(log)
	if len(got) != len(frames) || f != e {
		s.t.Errorf("P19.5: %s: %d entries, %d, not %d entries, %d", what, len(got), f, len(frames), e)
		return
	}
	at := 0
	for i, entry := range got {
		if entry.begin != at || entry.end != at+len(frames[i]) || log[entry.begin:entry.end] != frames[i] {
			s.t.Errorf("P19.5: %s: entry %d stands at %d to %d, not at %d to %d", what, i, entry.begin, entry.end, at, at+len(frames[i]))
		}
		at = entry.end
	}
}

// told tells entries as the model does.
func told(entries []journal.Entry) []found {
	var out []found
	for _, e := range entries {
		out = append(out, found{show(e.Record), e.Tag, e.Begin, e.End})
	}
	return out
}

// asksFollows holds Follows against the model.
func asksFollows(t *testing.T, h api.Head, r api.Record) bool {
	t.Helper()
	in := handIn(r)
	got := journal.Follows(h, in.r)
	in.takeBack(t)
	if want := wantFollows(h, r); got != want {
		t.Errorf("P19.6: Follows({%d %d %x %x}, %.300s) = %v", h.Count, h.Seq, h.Tag, h.Root, show(r), got)
	}
	return got
}

// counts tells counts of each length in bytes, around which something turns.
func counts() []int64 {
	out := []int64{1, 2, 55, 56, 300}
	for _, n := range []int64{1 << 7, 1 << 8, 1 << 15, 1 << 16, 1 << 23, 1 << 24, 1 << 31, 1 << 32, 1 << 39} {
		out = append(out, n-1, n, n+1)
	}
	return append(out, greatestCount-1, greatestCount)
}

// edgeChanges tells changes that may be, with keys and values of each length at which something turns.
func edgeChanges() []api.Change {
	out := []api.Change{gone(""), gone("\x00"), gone("\x7f"), gone("\x80"), gone(sized(31)), gone(sized(32))}
	for _, key := range []string{"", "\x00", "\x7f", "\x80", "\xff", "k", "key", sized(31), sized(32)} {
		for _, value := range []string{"\x00", "\x7f", "\x80", "\xff", "v", "value", sized(32), sized(54), sized(55), sized(56), sized(57), sized(255), sized(256)} {
			out = append(out, put(key, value))
		}
	}
	return out
}

// fullBatch tells as many of the greatest changes as may be.
func fullBatch() []api.Change {
	return slices.Repeat([]api.Change{put(sized(32), sized(256))}, greatestBatch)
}

// longest tells the record with the longest body.
func longest() api.Record { return committed(greatestCount, greatestCount, fullBatch()...) }

// samples tells records that may be, of all kinds.
func samples() []api.Record {
	var out []api.Record
	for _, n := range counts() {
		for _, seq := range []int64{0, 1, n / 2, n - 1, n} {
			out = append(out, opened(n, seq))
			if seq > 0 {
				out = append(out, committed(n, seq), committed(n, seq, gone("k")))
			}
		}
	}
	edges := edgeChanges()
	for _, c := range edges {
		out = append(out, committed(7, 3, c), committed(7, 3, c, gone("x")), committed(300, 2, put("x", "y"), c))
	}
	for n := range greatestBatch + 1 {
		out = append(out, committed(9, 9, edges[:n]...), committed(9, 9, slices.Repeat(edges[n:n+1], n)...))
	}
	return append(out, longest())
}

// few tells some records that may be.
func few() []api.Record {
	return []api.Record{
		{Kind: api.Opened, Count: 1},
		opened(1, 1),
		opened(greatestCount, greatestCount),
		committed(1, 1),
		committed(300, 2, put("\x12", "a"), gone("\x13")),
		committed(70000, 1234, put("", "\x00"), put("", "\x00"), gone(""), put(sized(32), sized(256))),
		committed(5, 5, edgeChanges()[:20]...),
	}
}

// anyRecord tells a record of chance, as a rule one that may be.
func anyRecord(rnd *rand.Rand) api.Record {
	anyBytes := func(most int) string {
		b := make([]byte, rnd.Intn(most+1))
		rnd.Read(b)
		return string(b)
	}
	r := api.Record{Kind: 1 + rnd.Intn(2), Count: 1 + rnd.Int63n(1<<rnd.Intn(41)), Prev: hashed(anyBytes(32)), Root: hashed(anyBytes(32))}
	r.Seq = rnd.Int63n(r.Count + 1)
	if r.Kind == api.Committed {
		r.Seq = max(r.Seq, 1)
		for range rnd.Intn(6) {
			c := gone(anyBytes(32))
			if rnd.Intn(2) == 0 {
				c = put(anyBytes(32), anyBytes(255)+"v")
			}
			r.Changes = append(r.Changes, c)
		}
	}
	return r
}
