package seal_test

import (
	"bytes"
	"fmt"
	"math/rand"
	"slices"
	"strings"
	"testing"

	"cairn/api"
	"cairn/digest"
	"cairn/journal"
	"cairn/media"
	"cairn/seal"
)

// rig is a book with a device and the sessions at it; and twins of book and device with the sessions' models over them, to
// which the same is done.
type rig struct {
	t        *testing.T
	bits     int
	book, bk *digest.Book
	d, twin  *media.Device
	logs     []*seal.Log
	models   []*model
	bodies   []string // what should have been coded
	story    []string
}

// newRig makes books of which so many bits of a code count, and no device.
func newRig(t *testing.T, codeBits int) *rig {
	t.Helper()
	r := &rig{t: t, bits: 256}
	if codeBits < 256 {
		r.bits = codeBits + 3
	}
	var e, f api.Errno
	r.book, e = digest.New(r.bits, codeBits, make([]byte, 32))
	r.bk, f = digest.New(r.bits, codeBits, make([]byte, 32))
	if e != api.OK || f != api.OK {
		t.Fatalf("books: %d, %d", e, f)
	}
	return r
}

// lay makes a rig with an empty device.
func lay(t *testing.T, room, codeBits int) *rig {
	t.Helper()
	return newRig(t, codeBits).load(room, "", api.Register{})
}

// load puts another device with such a log and register into the rig; blobs stand on it too. Sessions stay where they are.
func (r *rig) load(room int, log string, reg api.Register) *rig {
	r.t.Helper()
	m := api.Media{Slots: 3, Room: room, Log: []byte(log), Reg: reg, Blobs: []api.Blob{{Key: api.Hash{1}, Data: []byte("a blob")}, {Key: api.Hash{2}}}}
	var e, f api.Errno
	r.d, e = media.Load(m)
	r.twin, f = media.Load(m)
	if e != api.OK || f != api.OK {
		r.t.Fatalf("a device and its twin: %d, %d", e, f)
	}
	r.tell("a device of room %d, a log of %d bytes, the register at %d", room, len(log), reg.Count)
	return r
}

func (r *rig) tell(format string, what ...any) {
	r.story = append(r.story, fmt.Sprintf(format, what...))
}

// tale is the end of what was done.
func (r *rig) tale() string { return strings.Join(r.story[max(0, len(r.story)-30):], ", ") }

// fails ends the test.
func (r *rig) fails(format string, what ...any) {
	r.t.Helper()
	r.t.Fatalf("%s\nbehind %s", fmt.Sprintf(format, what...), r.tale())
}

// choose lays the choices for the accesses to come.
func (r *rig) choose(choices ...api.Choice) *rig {
	r.t.Helper()
	if e, f := r.d.Choose(choices...), r.twin.Choose(choices...); e != api.OK || f != api.OK {
		r.t.Fatalf("Choose: %d, %d", e, f)
	}
	r.tell("choices %v", choices)
	return r
}

func (r *rig) up() *rig {
	r.d.Up()
	r.twin.Up()
	r.tell("Up")
	return r
}

// aside does something to the device past the sessions.
func (r *rig) aside(what string, do func(d *media.Device)) {
	do(r.d)
	do(r.twin)
	r.tell("aside: %s", what)
}

// names of the accesses.
var names = []string{"?", "get", "put", "delete", "list", "read", "append", "trim", "cut", "reg", "setreg"}

// made tells the accesses that a call makes, in their order; with a stroke where one was not done.
func (r *rig) made(call func()) string {
	was := len(r.d.Accesses())
	call()
	var out []string
	for _, a := range r.d.Accesses()[was:] {
		name := names[a.Kind]
		if !a.Done {
			name += "-"
		}
		out = append(out, name)
	}
	return strings.Join(out, " ")
}

// open opens a session, and tells its number (-1: there is none), its head and the error.
func (r *rig) open() (int, api.Head, api.Errno) {
	r.t.Helper()
	r.tell("Open")
	l, h, e := seal.Open(r.d, r.book)
	m := &model{d: r.twin, book: r.bk, bits: r.bits}
	f := m.open()
	if h != m.head || e != f || (l == nil) != (e != api.OK) {
		r.fails("20.2: Open = %s, %d, not %s, %d", brief(h), e, brief(m.head), f)
	}
	r.bodies = append(r.bodies, m.coded...)
	m.coded = nil
	who := -1
	if l != nil {
		who = len(r.logs)
		r.logs, r.models = append(r.logs, l), append(r.models, m)
	}
	r.look()
	return who, h, e
}

// opens opens a session that is there then.
func (r *rig) opens() int {
	r.t.Helper()
	who, _, e := r.open()
	if e != api.OK {
		r.fails("20.2: Open = %d", e)
	}
	return who
}

// commit commits at a session.
func (r *rig) commit(who int, root api.Hash, changes ...api.Change) (api.Head, api.Errno) {
	r.t.Helper()
	r.tell("%d: Commit of %x and %d changes", who, root[:2], len(changes))
	in := handIn(changes)
	h, e := r.logs[who].Commit(root, in.changes)
	in.takeBack(r.t)
	m := r.models[who]
	want, f := m.commit(root, changes)
	if h != want || e != f {
		r.fails("20.3: Commit = %s, %d, not %s, %d", brief(h), e, brief(want), f)
	}
	r.bodies = append(r.bodies, m.coded...)
	m.coded = nil
	r.look()
	return h, e
}

// commits commits at a session that does.
func (r *rig) commits(who int, root api.Hash, changes ...api.Change) api.Head {
	r.t.Helper()
	h, e := r.commit(who, root, changes...)
	if e != api.OK {
		r.fails("20.3: Commit = %d", e)
	}
	return h
}

// check checks a session.
func (r *rig) check(who int) api.Errno {
	r.t.Helper()
	r.tell("%d: Check", who)
	e, f := r.logs[who].Check(), r.models[who].check()
	if e != f {
		r.fails("20.4: Check = %d, not %d", e, f)
	}
	r.look()
	return e
}

// history asks a session for its history.
func (r *rig) history(who int) ([]api.Record, api.Errno) {
	r.t.Helper()
	r.tell("%d: History", who)
	l, e := r.logs[who].History()
	want, f := r.models[who].history()
	if shown(l) != shown(want) || e != f {
		r.fails("20.6: History = %d records, %d, not %d records, %d", len(l), e, len(want), f)
	}
	r.look()
	return l, e
}

// look holds all that can be seen of sessions, device and book against models and twins.
func (r *rig) look() {
	r.t.Helper()
	made := len(r.d.Accesses())
	for i, l := range r.logs {
		if l.Head() != r.models[i].head {
			r.fails("20.5: session %d's head is %s, not %s", i, brief(l.Head()), brief(r.models[i].head))
		}
	}
	if len(r.d.Accesses()) != made {
		r.fails("20.5: Head has made an access")
	}
	if got, want := r.d.Accesses(), r.twin.Accesses(); !slices.Equal(got, want) {
		r.fails("R6: the accesses are %v, not %v", got, want)
	}
	if !sameMedia(r.d.Media(), r.twin.Media()) || r.d.Down() != r.twin.Down() {
		r.fails("R6: the device has other things than it should")
	}
	r.lookAtBook()
}

// lookAtBook holds what the book has coded and found against its twin: R7.
func (r *rig) lookAtBook() {
	r.t.Helper()
	for _, body := range r.bodies {
		if !r.book.Accept([]byte(body), r.bk.Code([]byte(body))) {
			r.fails("R7: the book has another code of %x", body)
		}
	}
	r.bodies = nil
	_, got := r.book.Len()
	_, want := r.bk.Len()
	if got != want || !slices.EqualFunc(r.book.Twins(), r.bk.Twins(), samePair) {
		r.fails("R7: %d bodies were coded, not %d", got, want)
	}
	if !slices.EqualFunc(r.book.Forgeries(), r.bk.Forgeries(), sameForgery) {
		r.fails("R7: %d forgeries, not %d", len(r.book.Forgeries()), len(r.bk.Forgeries()))
	}
}

// write has both books write a record, and tells its frame and the head behind it.
func (r *rig) write(x api.Record) (string, api.Head) {
	r.t.Helper()
	w, tag, e := journal.Write(r.book, x)
	if _, _, f := journal.Write(r.bk, x); e != api.OK || f != api.OK {
		r.t.Fatalf("P19.3: Write of %s: %d, %d", show(x), e, f)
	}
	return string(w), api.Head{Count: x.Count, Seq: x.Seq, Tag: tag, Root: x.Root}
}

// chain is frames one behind the other, with the head ahead of the first one and behind each.
type chain struct {
	frames []string
	heads  []api.Head
}

// chain writes a chain behind a head: of an o the record of an opening that follows, of a c that of a commit.
func (r *rig) chain(h api.Head, kinds string) chain {
	r.t.Helper()
	c := chain{heads: []api.Head{h}}
	for i, kind := range kinds {
		x := openedBehind(h)
		if kind == 'c' {
			x = committedBehind(h, root(i+1), put("key", strings.Repeat("v", 1+i)))
		}
		var w string
		w, h = r.write(x)
		c.frames, c.heads = append(c.frames, w), append(c.heads, h)
	}
	return c
}

// log tells the first n frames of a chain.
func (c chain) log(n int) string { return strings.Join(c.frames[:n], "") }

// all tells all frames of a chain.
func (c chain) all() string { return c.log(len(c.frames)) }

// reg tells the register that stands for the head behind the first n frames.
func (c chain) reg(n int) api.Register {
	return api.Register{Count: c.heads[n].Count, Tag: c.heads[n].Tag}
}

// beginning is the head of no record.
func (r *rig) beginning() api.Head { return api.Head{Root: hashOf(r.bits, "\x80")} }

func openedBehind(h api.Head) api.Record {
	return api.Record{Kind: api.Opened, Count: h.Count + 1, Seq: h.Seq, Prev: h.Tag, Root: h.Root}
}

func committedBehind(h api.Head, root api.Hash, changes ...api.Change) api.Record {
	return api.Record{Kind: api.Committed, Count: h.Count + 1, Seq: h.Seq + 1, Prev: h.Tag, Root: root, Changes: changes}
}

func root(n int) api.Hash { return api.Hash{0xaa, byte(n), byte(n >> 8), 31: 1} }

func put(key, value string) api.Change { return api.Change{Key: []byte(key), Value: []byte(value)} }

func gone(key string) api.Change { return api.Change{Key: []byte(key), Gone: true} }

// greatest are the changes of the longest record that a session with a counter below 2^40 writes.
func greatest() []api.Change {
	return slices.Repeat([]api.Change{put(strings.Repeat("k", 32), strings.Repeat("v", 256))}, 32)
}

// greatestFrame is how many bytes the longest frame of a record has.
func greatestFrame(t *testing.T) int {
	t.Helper()
	book, _ := digest.New(256, 256, make([]byte, 32))
	w, _, e := journal.Write(book, api.Record{Kind: api.Committed, Count: greatestCount, Seq: greatestCount, Changes: greatest()})
	if e != api.OK {
		t.Fatalf("P19.3: the greatest record: %d", e)
	}
	return len(w)
}

// openedFrame is how many bytes the frame of an opening's record has, as long as its numbers have one byte.
const openedFrame = 111

// show tells a record as a text: two that are one have one text.
func show(r api.Record) string {
	out := fmt.Sprintf("kind %d count %d seq %d prev %x root %x", r.Kind, r.Count, r.Seq, r.Prev, r.Root)
	for _, c := range r.Changes {
		out += fmt.Sprintf(" [%x %x %v]", c.Key, c.Value, c.Gone)
	}
	return out
}

func shown(l []api.Record) string {
	var out []string
	for _, r := range l {
		out = append(out, show(r))
	}
	return strings.Join(out, "\n")
}

// brief tells a head so that a message stays short.
func brief(h api.Head) string {
	return fmt.Sprintf("{%d %d %x %x}", h.Count, h.Seq, h.Tag[:3], h.Root[:3])
}

func sameMedia(a, b api.Media) bool {
	sameBlob := func(x, y api.Blob) bool { return x.Key == y.Key && bytes.Equal(x.Data, y.Data) }
	return a.Slots == b.Slots && a.Room == b.Room && a.Reg == b.Reg && bytes.Equal(a.Log, b.Log) && slices.EqualFunc(a.Blobs, b.Blobs, sameBlob)
}

func samePair(a, b api.Pair) bool { return bytes.Equal(a.A, b.A) && bytes.Equal(a.B, b.B) }

func sameForgery(a, b api.Forgery) bool { return bytes.Equal(a.Body, b.Body) && a.Code == b.Code }

func choice(kind, n int) api.Choice { return api.Choice{Kind: kind, N: n, M: n} }

// honest is so many honest choices with others behind them.
func honest(n int, then ...api.Choice) []api.Choice {
	return append(make([]api.Choice, n), then...)
}

// fill writes one byte all over bytes and their spare room.
func fill(b []byte, x byte) {
	b = b[:cap(b)]
	for i := range b {
		b[i] = x
	}
}

// roomy tells a copy of bytes whose spare room is filled with marks.
func roomy(b []byte) []byte {
	return append(slices.Clone(b), 202, 0, 0, 1, 255, 255, 254, 9, 128, 192)[:len(b)]
}

// handed is changes that are handed in: all of their lists have spare room that counts nothing.
type handed struct {
	changes []api.Change
	was     string
}

func handIn(changes []api.Change) *handed {
	h := &handed{}
	for _, c := range changes {
		h.changes = append(h.changes, api.Change{Key: roomy(c.Key), Value: roomy(c.Value), Gone: c.Gone})
	}
	h.changes = append(h.changes, api.Change{Key: roomy([]byte("spare")), Value: roomy([]byte("room"))}, api.Change{Gone: true})[:len(changes)]
	h.was = h.tell()
	return h
}

// tell tells all that was handed in, spare room too.
func (h *handed) tell() string {
	var out []string
	for _, c := range h.changes[:cap(h.changes)] {
		out = append(out, fmt.Sprintf("%x %d %x %d %v", c.Key[:cap(c.Key)], len(c.Key), c.Value[:cap(c.Value)], len(c.Value), c.Gone))
	}
	return strings.Join(out, "\n")
}

// takeBack looks whether what was handed in is as it was, and spoils it: whoever has kept it loses it.
func (h *handed) takeBack(t *testing.T) {
	t.Helper()
	if h.tell() != h.was {
		t.Errorf("R3: changes that were handed in are changed: %.300s", h.was)
	}
	for _, c := range h.changes[:cap(h.changes)] {
		fill(c.Key, 0x66)
		fill(c.Value, 0x66)
	}
	clear(h.changes[:cap(h.changes)])
}

// someChanges tells changes of chance that may be.
func someChanges(rnd *rand.Rand) []api.Change {
	if rnd.Intn(12) == 0 {
		return greatest()[:rnd.Intn(33)]
	}
	var out []api.Change
	for range rnd.Intn(4) {
		c := put(strings.Repeat("k", rnd.Intn(33)), strings.Repeat("v", 1+rnd.Intn(100)))
		if rnd.Intn(3) == 0 {
			c = gone("k")
		}
		out = append(out, c)
	}
	return out
}
