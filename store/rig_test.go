package store_test

import (
	"bytes"
	"fmt"
	"maps"
	"slices"
	"strings"
	"testing"

	"cairn/api"
	"cairn/digest"
	"cairn/media"
	"cairn/shape"
	"cairn/store"
)

func rounds(most int) int {
	if testing.Short() {
		return most / 10
	}
	return most
}

// rig is a book with a device and the stores at it; and twins of book and device with the stores' models over them, to which the
// same is done. Beside them stands what the map is.
type rig struct {
	t        *testing.T
	bits     int
	book, bk *digest.Book
	plain    *digest.Book // for what the test itself asks
	d, twin  *media.Device
	stores   []*store.Store
	models   []*model
	truth    *truth
	story    []string
	looked   int // how many accesses there were when the device was looked at
}

func newBook(t *testing.T, bits, codeBits int) *digest.Book {
	t.Helper()
	book, e := digest.New(bits, codeBits, make([]byte, 32))
	if e != api.OK {
		t.Fatalf("a book of %d and %d bits: %d", bits, codeBits, e)
	}
	return book
}

// lay makes a rig with an empty device.
func lay(t *testing.T, slots, room, bits, codeBits int) *rig {
	t.Helper()
	r := &rig{t: t, bits: bits, book: newBook(t, bits, codeBits), bk: newBook(t, bits, codeBits), plain: newBook(t, bits, codeBits)}
	r.load(api.Media{Slots: slots, Room: room})
	r.truth = newTruth(r)
	return r
}

// roomy is a rig with room for all, and a book of all bits.
func roomy(t *testing.T) *rig {
	t.Helper()
	return lay(t, 64, 60000, 256, 256)
}

// load puts another device into the rig. Stores stay where they are.
func (r *rig) load(m api.Media) *rig {
	r.t.Helper()
	var e, f api.Errno
	r.d, e = media.Load(m)
	r.twin, f = media.Load(m)
	if e != api.OK || f != api.OK {
		r.t.Fatalf("a device and its twin: %d, %d", e, f)
	}
	r.looked = -1
	r.tell("a device of %d slots and room %d, with %d blobs, the register at %d", m.Slots, m.Room, len(m.Blobs), m.Reg.Count)
	return r
}

func (r *rig) tell(format string, what ...any) {
	r.story = append(r.story, fmt.Sprintf(format, what...))
}

// fails ends the test.
func (r *rig) fails(format string, what ...any) {
	r.t.Helper()
	tale := strings.Join(r.story[max(0, len(r.story)-40):], ", ")
	r.t.Fatalf("%s\nbehind %s", fmt.Sprintf(format, what...), tale)
}

// choose lays the choices for the accesses to come.
func (r *rig) choose(choices ...api.Choice) *rig {
	r.t.Helper()
	if e, f := r.d.Choose(choices...), r.twin.Choose(choices...); e != api.OK || f != api.OK {
		r.t.Fatalf("Choose: %d, %d", e, f)
	}
	r.tell("choices %v", choices)
	return r
}

func (r *rig) up() *rig {
	r.d.Up()
	r.twin.Up()
	r.tell("Up")
	return r
}

// aside does something to the device past the stores.
func (r *rig) aside(what string, do func(d *media.Device)) *rig {
	do(r.d)
	do(r.twin)
	r.tell("aside: %s", what)
	return r
}

// goesDown takes the device down past the stores.
func (r *rig) goesDown() *rig {
	r.t.Helper()
	r.choose(api.Choice{Kind: api.Crash})
	return r.aside("a crash", func(d *media.Device) { d.List() }).choose()
}

// names of the accesses.
var names = []string{"?", "get", "put", "delete", "list", "read", "append", "trim", "cut", "reg", "setreg"}

// made tells the accesses that a call makes, in their order; with a stroke where one was not done.
func (r *rig) made(call func()) string {
	was := len(r.d.Accesses())
	call()
	var out []string
	for _, a := range r.d.Accesses()[was:] {
		name := names[a.Kind]
		if !a.Done {
			name += "-"
		}
		out = append(out, name)
	}
	return strings.Join(out, " ")
}

// open opens a store, and tells its number (-1: there is none) and the error.
func (r *rig) open(cache int) (int, api.Errno) {
	r.t.Helper()
	r.tell("Open(%d)", cache)
	s, e := store.Open(r.d, r.book, cache)
	m, f := opened(r.twin, r.bk, cache)
	if e != f || (s == nil) != (e != api.OK) {
		r.fails("23.1: Open answers %d, not %d", e, f)
	}
	who := -1
	if s != nil {
		who = len(r.stores)
		r.stores, r.models = append(r.stores, s), append(r.models, m)
		r.truth.opened(who, m.head)
	}
	r.look()
	return who, e
}

// opens opens a store that is there then.
func (r *rig) opens(cache int) int {
	r.t.Helper()
	who, e := r.open(cache)
	if e != api.OK {
		r.fails("23.1: Open answers %d", e)
	}
	return who
}

// wantsOpen opens, and holds error and accesses against what the test names.
func (r *rig) wantsOpen(promise string, cache int, want api.Errno, accesses string) int {
	r.t.Helper()
	var who int
	var e api.Errno
	if made := r.made(func() { who, e = r.open(cache) }); made != accesses || e != want {
		r.fails("%s: Open answers %d by %q, not %d by %q", promise, e, made, want, accesses)
	}
	return who
}

// do makes a call at a store, and holds its answer against the model's, and against what the map is. What was handed in is looked
// at and spoiled then, as is what was handed out: whoever has kept it loses it.
func (r *rig) do(who int, a ask) (any, api.Errno) {
	r.t.Helper()
	r.tell("%d: %s", who, a.name)
	batch := slices.Clone(r.models[who].batch)
	ours, theirs := &hand{}, &hand{}
	got, e := a.do(ours, r.stores[who])
	want, f := a.do(theirs, r.models[who])
	if got != want || e != f {
		r.fails("%s of %d answers %s, %d, not %s, %d", a.name, who, brief(got), e, brief(want), f)
	}
	if wrong := ours.back(); wrong != "" {
		r.fails("R3: %s: what was handed in is changed: %s", a.name, wrong)
	}
	theirs.back()
	r.truth.heard(who, a, got, e, batch)
	r.look()
	return got, e
}

// does makes a call at a store that answers OK.
func (r *rig) does(who int, asks ...ask) *rig {
	r.t.Helper()
	for _, a := range asks {
		if _, e := r.do(who, a); e != api.OK {
			r.fails("%s of %d answers %d", a.name, who, e)
		}
	}
	return r
}

// wants makes a call at a store, and holds answer and accesses against what the test names.
func (r *rig) wants(promise string, who int, a ask, want any, accesses string) {
	r.t.Helper()
	var got any
	var e api.Errno
	if made := r.made(func() { got, e = r.do(who, a) }); made != accesses {
		r.fails("%s, R6: the accesses of %s are %q, not %q", promise, a.name, made, accesses)
	}
	if got != want || e != api.OK {
		r.fails("%s: %s answers %s, %d, not %s", promise, a.name, brief(got), e, brief(want))
	}
}

// refuses makes a call at a store, and holds error and accesses against what the test names.
func (r *rig) refuses(promise string, who int, a ask, want api.Errno, accesses string) {
	r.t.Helper()
	var got any
	var e api.Errno
	if made := r.made(func() { got, e = r.do(who, a) }); made != accesses {
		r.fails("%s, R6: the accesses of %s are %q, not %q", promise, a.name, made, accesses)
	}
	if got != a.zero || e != want {
		r.fails("%s: %s answers %s, %d, not error %d", promise, a.name, brief(got), e, want)
	}
}

// look holds all that can be seen of stores, device and book against models and twins.
func (r *rig) look() {
	r.t.Helper()
	made := len(r.d.Accesses())
	for i, s := range r.stores {
		got, want := s.Report(), r.models[i].Report()
		if !sameReport(got, want) {
			r.fails("23.11: Report of %d answers %s, not %s", i, brief(got), brief(want))
		}
		clear(got.Quarantine[:cap(got.Quarantine)])
	}
	got, want := r.d.Accesses(), r.twin.Accesses()
	if len(got) != made {
		r.fails("23.11: Report has made an access")
	}
	if !slices.Equal(got, want) {
		r.fails("R6: the accesses are %v, not %v", got, want)
	}
	if len(got) != r.looked {
		r.looked = len(got)
		if !sameMedia(r.d.Media(), r.twin.Media()) {
			r.fails("R6: the device has other things than it should")
		}
		r.truth.look()
	}
	_, coded := r.book.Len()
	if _, n := r.bk.Len(); coded != n || len(r.book.Twins()) != len(r.bk.Twins()) || len(r.book.Forgeries()) != len(r.bk.Forgeries()) {
		r.fails("R7: %d bodies were coded, not %d", coded, n)
	}
}

// failed tells whether a store has failed.
func (r *rig) failed(who int) bool { return r.stores[who].Report().Failed }

// has holds the keys of the device's blobs against what the test names.
func (r *rig) has(promise string, want ...api.Hash) {
	r.t.Helper()
	var got []api.Hash
	for _, b := range r.d.Media().Blobs {
		got = append(got, b.Key)
	}
	if !slices.Equal(got, rising(want)) {
		r.fails("%s: the device has %.3x, not %.3x", promise, got, rising(want))
	}
}

// history asks a store for its history.
func (r *rig) history(who int) []api.Record {
	r.t.Helper()
	r.does(who, history())
	l, e := r.stores[who].History()
	if _, f := r.models[who].History(); e != api.OK || f != api.OK {
		r.fails("23.9: History answers %d", e)
	}
	return l
}

// reported is a store's report as a text; its list is spoiled.
func reported(f face) string {
	r := f.Report()
	out := fmt.Sprintf("%+v", r)
	clear(r.Quarantine[:cap(r.Quarantine)])
	return out
}

// brief tells an answer so that a message stays short.
func brief(answer any) string { return fmt.Sprintf("%.300s", fmt.Sprintf("%+v", answer)) }

func sameReport(a, b api.Report) bool {
	return a.Head == b.Head && a.Failed == b.Failed && a.Staged == b.Staged && a.Cached == b.Cached && slices.Equal(a.Quarantine, b.Quarantine)
}

func sameMedia(a, b api.Media) bool {
	sameBlob := func(x, y api.Blob) bool { return x.Key == y.Key && bytes.Equal(x.Data, y.Data) }
	return a.Slots == b.Slots && a.Room == b.Room && a.Reg == b.Reg && bytes.Equal(a.Log, b.Log) && slices.EqualFunc(a.Blobs, b.Blobs, sameBlob)
}

func put(key, value string) api.Change { return api.Change{Key: []byte(key), Value: []byte(value)} }

func gone(key string) api.Change { return api.Change{Key: []byte(key), Gone: true} }

func choice(kind, n int) api.Choice { return api.Choice{Kind: kind, N: n, M: n} }

// honest is so many honest choices with others behind them.
func honest(n int, then ...api.Choice) []api.Choice {
	return append(make([]api.Choice, n), then...)
}

// world is what the map is, or may be.
type world struct {
	entries map[string]string
	root    api.Hash
	seq     int64
}

// truth is what the map is, whatever the device does, while the book is sound: the batches that were committed, done one behind
// the other on a plain map. It is told what was asked and answered, and says where W1 or W3 is broken.
type truth struct {
	r     *rig
	now   world
	maybe *world // what a commit that went down would have made; nil: there is none
	last  int    // the store that was opened last
	count int64  // the greatest counter that was seen
	seen  map[string]int
}

func newTruth(r *rig) *truth {
	return &truth{r: r, now: world{entries: map[string]string{}, root: emptyRoot(r.bits)}, last: -1, seen: map[string]int{}}
}

// is puts another map into the truth: the one that stands on a device that was loaded.
func (x *truth) is(entries map[string]string, seq int64) {
	x.now = world{entries, x.rootOf(entries), seq}
}

// rootOf tells the root of a map.
func (x *truth) rootOf(entries map[string]string) api.Hash {
	root, e := shape.Root(x.r.plain, listed(entries))
	if e != api.OK {
		x.r.t.Fatalf("14.5: %d", e)
	}
	return root
}

// behind tells the world behind a batch.
func (x *truth) behind(batch []api.Change) world {
	w := world{entries: maps.Clone(x.now.entries), seq: x.now.seq + 1}
	for _, c := range batch {
		if c.Gone {
			delete(w.entries, string(c.Key))
		} else {
			w.entries[string(c.Key)] = string(c.Value)
		}
	}
	w.root = x.rootOf(w.entries)
	return w
}

// opened is told the head that an opening shows: W3.
func (x *truth) opened(who int, h api.Head) {
	x.r.t.Helper()
	x.last = who
	if !x.r.book.Sound() {
		return
	}
	if h.Count <= x.count {
		x.r.fails("W3: an opening shows the count %d behind %d", h.Count, x.count)
	}
	shown := func(w world) bool { return w.root == h.Root && w.seq == h.Seq }
	switch {
	case shown(x.now):
		x.seen["the map"]++
		if x.maybe != nil {
			x.seen["a commit that went down is not there"]++
		}
	case x.maybe != nil && shown(*x.maybe):
		x.now = *x.maybe
		x.seen["a commit that went down is there"]++
	default:
		x.r.fails("W3: an opening shows %x by %d batches, not %x by %d", h.Root[:3], h.Seq, x.now.root[:3], x.now.seq)
	}
	x.maybe = nil
}

// heard is told a call and its answer: W1.
func (x *truth) heard(who int, a ask, answer any, e api.Errno, batch []api.Change) {
	x.r.t.Helper()
	x.seen[fmt.Sprintf("%s %d", strings.Split(a.name, "(")[0], e)]++
	if !x.r.book.Sound() {
		x.seen["not sound"]++
		return
	}
	if a.commits {
		switch next := x.behind(batch); {
		case e == api.OK:
			if answer != next.root || who != x.last || x.maybe != nil {
				x.r.fails("W1: %d commits, and answers %x, not %x", who, answer, next.root)
			}
			x.now = next
		case e == api.ErrDown && who == x.last:
			x.maybe = &next
		}
		return
	}
	if e != api.OK || a.right == nil {
		return
	}
	if who != x.last || x.maybe != nil {
		x.r.fails("W1: %s is answered by %d, though %d was opened last", a.name, who, x.last)
	}
	if !a.right(x, answer) {
		x.r.fails("W1: %s answers %s, and this is not what the map has", a.name, brief(answer))
	}
}

// look looks that the counter never falls.
func (x *truth) look() {
	x.r.t.Helper()
	count := x.r.d.Media().Reg.Count
	if count < x.count {
		x.r.fails("W3: the counter falls from %d to %d", x.count, count)
	}
	x.count = count
}

// listed is a map's entries, rising.
func listed(entries map[string]string) []api.Entry {
	var out []api.Entry
	for _, key := range slices.Sorted(maps.Keys(entries)) {
		out = append(out, api.Entry{Key: []byte(key), Value: []byte(entries[key])})
	}
	return out
}
