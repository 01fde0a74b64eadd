package sweep_test

import (
	"bytes"
	"fmt"
	"maps"
	"math/rand"
	"slices"
	"strings"
	"testing"

	"cairn/api"
	"cairn/digest"
	"cairn/hstore"
	"cairn/media"
	"cairn/shape"
	"cairn/sweep"
)

func rounds(most int) int {
	if testing.Short() {
		return most / 10
	}
	return most
}

// fill writes one byte all over bytes and their spare room.
func fill(b []byte, x byte) {
	b = b[:cap(b)]
	for i := range b {
		b[i] = x
	}
}

// whole tells bytes with their spare room.
func whole(b []byte) string { return string(b[:cap(b)]) }

// shelf is a source that tells what was laid on it, and can be made to tell something else. It has one memory for all
// that it tells, with marks in its spare room: so whoever keeps that memory loses what stood there.
type shelf struct {
	blobs   map[api.Hash]string
	errs    map[api.Hash]api.Errno
	asked   []api.Hash
	memory  []byte
	was     string // the memory, spare room too, as it was told
	changed bool
	aside   func() // done at each reading
}

func newShelf() *shelf {
	return &shelf{blobs: map[api.Hash]string{}, errs: map[api.Hash]api.Errno{}, aside: func() {}}
}

// look tells whether what was told last is still as it was.
func (s *shelf) look() bool {
	s.changed = s.changed || whole(s.memory) != s.was
	return !s.changed
}

func (s *shelf) Node(h api.Hash) ([]byte, api.Errno) {
	s.look()
	s.aside()
	fill(s.memory, 0xee)
	s.asked = append(s.asked, h)
	b, e := s.tells(h)
	s.memory = append(append(s.memory[:0], b...), 7, 201, 0, 32, 255, 16, 9, 204)[:len(b)]
	s.was = whole(s.memory)
	return s.memory, e
}

// tells is what the shelf tells of a hash.
func (s *shelf) tells(h api.Hash) ([]byte, api.Errno) {
	b, there := s.blobs[h]
	e := s.errs[h]
	if !there && e == api.OK {
		e = api.ErrAbsent
	}
	return []byte(b), e
}

func newBook(t *testing.T, bits int) *digest.Book {
	t.Helper()
	book, e := digest.New(bits, 256, make([]byte, 32))
	if e != api.OK {
		t.Fatalf("a book of %d bits: %d", bits, e)
	}
	return book
}

// hasHashed tells whether a book has hashed a string.
func hasHashed(book *digest.Book, s string) bool {
	was, _ := book.Len()
	book.Hash([]byte(s))
	now, _ := book.Len()
	return now == was
}

// mark is a hash that is nobody's, for spare room.
func mark(x byte) api.Hash { return api.Hash{x, 31: x ^ 0x5a} }

// fillHashes writes one mark all over hashes and their spare room.
func fillHashes(l []api.Hash, x byte) {
	l = l[:cap(l)]
	for i := range l {
		l[i] = mark(x)
	}
}

// isAll tells whether hashes and their spare room are one mark all over.
func isAll(l []api.Hash, x byte) bool {
	return !slices.ContainsFunc(l[:cap(l)], func(h api.Hash) bool { return h != mark(x) })
}

// handed is hashes that are handed in: they have spare room that counts nothing.
type handed struct {
	list, was []api.Hash
}

func handIn(hashes []api.Hash) *handed {
	l := append(slices.Clone(hashes), mark(1), mark(2), mark(3))[:len(hashes)]
	return &handed{l, slices.Clone(l[:cap(l)])}
}

// takeBack looks whether what was handed in is as it was, and spoils it: whoever has kept it loses it.
func (h *handed) takeBack(t *testing.T) {
	t.Helper()
	if !slices.Equal(h.list[:cap(h.list)], h.was) {
		t.Errorf("R3: hashes that were handed in are changed")
	}
	fillHashes(h.list, 0x66)
}

// stand is a book with a shelf of nodes, for Mark alone.
type stand struct {
	t    *testing.T
	bits int
	book *digest.Book
	src  *shelf
}

func newStand(t *testing.T, bits int) *stand {
	t.Helper()
	return &stand{t: t, bits: bits, book: newBook(t, bits), src: newShelf()}
}

// lay lays an encoding on the shelf, and tells its hash.
func (s *stand) lay(encoding string) api.Hash {
	h := hashOf(s.bits, encoding)
	s.src.blobs[h] = encoding
	return h
}

// by lays an encoding on the shelf, and tells the item by which it stands in another node, however short it is.
func (s *stand) by(encoding string) string { return by(s.lay(encoding)) }

// call calls Mark; it looks whether what was handed in or told is as it was, and spoils it, and what was answered too.
func (s *stand) call(roots []api.Hash) ([]api.Hash, []api.Hash, api.Errno) {
	s.t.Helper()
	in := handIn(roots)
	s.src.asked = nil
	l, e := sweep.Mark(s.src, s.book, in.list...)
	if !s.src.look() {
		s.t.Errorf("R3: Mark has changed what it was told")
	}
	out := slices.Clone(l)
	in.takeBack(s.t)
	fill(s.src.memory, 0x66)
	s.src.was = whole(s.src.memory)
	if !slices.Equal(l, out) {
		s.t.Errorf("R3: what Mark answers shares memory with what it was handed or told")
	}
	fillHashes(l, 0x99)
	if !isAll(in.list, 0x66) || !s.src.look() {
		s.t.Errorf("R3: what Mark answers shares its spare room with what it was handed or told")
	}
	return out, slices.Clone(s.src.asked), e
}

// mark asks Mark twice, and holds all that is to be seen of it against the model.
func (s *stand) mark(promise string, roots ...api.Hash) ([]api.Hash, []api.Hash, api.Errno) {
	s.t.Helper()
	want, read, f := markModel(s.bits, s.src.tells, roots)
	for range 2 {
		got, asked, e := s.call(roots)
		if e != f || !slices.Equal(got, want) {
			s.t.Fatalf("%s, 21.1: Mark answers %.3x, %d, not %.3x, %d", promise, got, e, want, f)
		}
		if !slices.Equal(asked, read) {
			s.t.Fatalf("%s, 21.1: Mark asks for %.3x, not for %.3x", promise, asked, read)
		}
	}
	for i, h := range read {
		if b, there := s.src.blobs[h]; there && (f == 0 || i+1 < len(read)) && !hasHashed(s.book, b) {
			s.t.Fatalf("%s, R7: %.40x was read as right and never hashed", promise, b)
		}
	}
	return want, read, f
}

// tells looks that Mark tells just these hashes, and reads just those, in their order.
func (s *stand) tells(promise string, read []api.Hash, roots ...api.Hash) {
	s.t.Helper()
	got, asked, e := s.mark(promise, roots...)
	if e != api.OK || !slices.Equal(asked, read) || !slices.Equal(got, rising(read)) {
		s.t.Errorf("%s, 21.1: %.3x, %d, with %.3x read, not %.3x", promise, got, e, asked, read)
	}
}

// refuses looks that Mark answers an error behind so many readings.
func (s *stand) refuses(promise string, want api.Errno, read int, roots ...api.Hash) {
	s.t.Helper()
	if got, asked, e := s.mark(promise, roots...); e != want || len(asked) != read || len(got) != 0 {
		s.t.Errorf("%s, 21.1: %d hashes, %d, with %d read, not error %d with %d", promise, len(got), e, len(asked), want, read)
	}
}

// rig is a device with its book and a store over both; and twins of all three, to which the model does the same.
type rig struct {
	t        *testing.T
	bits     int
	book, bk *digest.Book
	d, twin  *media.Device
	s, st    *hstore.Store
	story    []string
}

// lay makes a rig over an empty device.
func lay(t *testing.T, slots, bits, cache int) *rig {
	t.Helper()
	return layOver(t, api.Media{Slots: slots, Room: 30, Log: []byte("a log"), Reg: api.Register{Count: 3, Tag: api.Hash{9}}}, bits, cache)
}

// layOver makes a rig over what a device keeps.
func layOver(t *testing.T, m api.Media, bits, cache int) *rig {
	t.Helper()
	r := &rig{t: t, bits: bits, book: newBook(t, bits), bk: newBook(t, bits)}
	var e, f api.Errno
	r.d, e = media.Load(m)
	r.twin, f = media.Load(m)
	if e != api.OK || f != api.OK {
		t.Fatalf("a device and its twin: %d, %d", e, f)
	}
	r.tell("a device of %d slots with %d blobs", m.Slots, len(m.Blobs))
	return r.open(cache)
}

// open makes a new store over the device, instead of the one that was there.
func (r *rig) open(cache int) *rig {
	r.t.Helper()
	var e, f api.Errno
	r.s, e = hstore.New(r.d, r.book, cache)
	r.st, f = hstore.New(r.twin, r.bk, cache)
	if e != api.OK || f != api.OK {
		r.t.Fatalf("a store and its twin: %d, %d", e, f)
	}
	r.tell("a store with a cache of %d", cache)
	return r
}

func (r *rig) tell(format string, what ...any) {
	r.story = append(r.story, fmt.Sprintf(format, what...))
}

// fails ends the test.
func (r *rig) fails(format string, what ...any) {
	r.t.Helper()
	tale := strings.Join(r.story[max(0, len(r.story)-30):], ", ")
	r.t.Fatalf("%s\nbehind %s", fmt.Sprintf(format, what...), tale)
}

// choose lays the choices for the accesses to come.
func (r *rig) choose(choices ...api.Choice) *rig {
	r.t.Helper()
	if e, f := r.d.Choose(choices...), r.twin.Choose(choices...); e != api.OK || f != api.OK {
		r.t.Fatalf("Choose: %d, %d", e, f)
	}
	r.tell("choices %v", choices)
	return r
}

func (r *rig) up() *rig {
	r.d.Up()
	r.twin.Up()
	r.tell("Up")
	return r
}

// put writes under a key past the store.
func (r *rig) put(key api.Hash, data string) {
	r.d.Put(key, []byte(data))
	r.twin.Put(key, []byte(data))
	r.tell("%d bytes under %x", len(data), key[:2])
}

// lose deletes what stands under a key past the store.
func (r *rig) lose(key api.Hash) {
	r.d.Delete(key)
	r.twin.Delete(key)
	r.tell("%x is lost", key[:2])
}

// read reads a hash by the store.
func (r *rig) read(h api.Hash) api.Errno {
	r.t.Helper()
	_, e := r.s.Node(h)
	if _, f := r.st.Node(h); e != f {
		r.fails("P10.4: Node(%x) answers %d, not %d", h[:2], e, f)
	}
	r.tell("Node(%x)", h[:2])
	return e
}

// forget has the store forget.
func (r *rig) forget(hs ...api.Hash) {
	r.s.Forget(hs...)
	r.st.Forget(hs...)
	r.tell("Forget of %d", len(hs))
}

// trie is a map's trie.
type trie struct {
	root  api.Hash
	keys  []api.Hash // rising
	blobs []api.Blob
}

// trieOf tells the trie of a map.
func trieOf(t *testing.T, bits int, entries map[string]string) trie {
	t.Helper()
	book := newBook(t, bits)
	var l []api.Entry
	for key, value := range entries {
		l = append(l, api.Entry{Key: []byte(key), Value: []byte(value)})
	}
	l = shape.Sort(l)
	root, e := shape.Root(book, l)
	blobs, f := shape.Nodes(book, l)
	if e != api.OK || f != api.OK {
		t.Fatalf("14.5, 14.6: %d, %d", e, f)
	}
	m := trie{root: root, blobs: blobs}
	for _, b := range blobs {
		if !slices.Contains(m.keys, b.Key) {
			m.keys = append(m.keys, b.Key)
		}
	}
	return m
}

// plant writes the trie of a map to the device.
func (r *rig) plant(entries map[string]string) trie {
	r.t.Helper()
	m := trieOf(r.t, r.bits, entries)
	for _, b := range m.blobs {
		r.put(b.Key, string(b.Data))
	}
	return m
}

// mark marks over the store.
func (r *rig) mark(roots ...api.Hash) ([]api.Hash, api.Errno) {
	r.t.Helper()
	r.tell("Mark of %d roots", len(roots))
	in := handIn(roots)
	got, e := sweep.Mark(r.s, r.book, in.list...)
	in.takeBack(r.t)
	want, _, f := markModel(r.bits, r.st.Node, roots)
	if e != f || !slices.Equal(got, want) {
		r.fails("21.1: Mark answers %.3x, %d, not %.3x, %d", got, e, want, f)
	}
	r.look()
	return got, e
}

// sweep sweeps, and tells beside the answer the keys whose deleting was asked for.
func (r *rig) sweep(keep []api.Hash, roots ...api.Hash) outcome {
	r.t.Helper()
	r.tell("Sweep with %d to keep, %d roots", len(keep), len(roots))
	kept, in := handIn(keep), handIn(roots)
	swept, e := sweep.Sweep(r.d, r.s, r.book, kept.list, in.list...)
	kept.takeBack(r.t)
	in.takeBack(r.t)
	want := sweepModel(r.bits, r.twin, r.st, keep, roots)
	if swept != want.swept || e != want.e {
		r.fails("21.2: Sweep answers %+v, %d, not %+v, %d", swept, e, want.swept, want.e)
	}
	r.look()
	return want
}

// sweeps sweeps, and holds answer and accesses against what the test names.
func (r *rig) sweeps(promise string, keep []api.Hash, roots []api.Hash, want api.Swept, e api.Errno, accesses string) {
	r.t.Helper()
	var got outcome
	if made := r.made(func() { got = r.sweep(keep, roots...) }); made != accesses {
		r.fails("%s, R6: the accesses are %q, not %q", promise, made, accesses)
	}
	if got.swept != want || got.e != e {
		r.fails("%s: %+v, %d, not %+v, %d", promise, got.swept, got.e, want, e)
	}
}

// look holds all that can be seen of device, store and book against the twins.
func (r *rig) look() {
	r.t.Helper()
	if got, want := r.d.Accesses(), r.twin.Accesses(); !slices.Equal(got, want) {
		r.fails("R6: the accesses are %v, not %v", got, want)
	}
	if !sameMedia(r.d.Media(), r.twin.Media()) || r.d.Down() != r.twin.Down() {
		r.fails("21.2: the device has other things than it should")
	}
	if got, want := r.s.Cached(), r.st.Cached(); !slices.Equal(got, want) {
		r.fails("21.2: the cache has %.4x, not %.4x", got, want)
	}
	if got, want := r.s.Quarantine(), r.st.Quarantine(); !slices.Equal(got, want) {
		r.fails("21.2: the quarantine has %.4x, not %.4x", got, want)
	}
	if _, coded := r.book.Len(); coded != 0 {
		r.fails("R7: %d bodies were coded", coded)
	}
}

// names of the accesses.
var names = []string{"?", "get", "put", "delete", "list", "read", "append", "trim", "cut", "reg", "setreg"}

// made tells the accesses that a call makes, in their order; with a stroke where one was not done.
func (r *rig) made(call func()) string {
	was := len(r.d.Accesses())
	call()
	var out []string
	for _, a := range r.d.Accesses()[was:] {
		name := names[a.Kind]
		if !a.Done {
			name += "-"
		}
		out = append(out, name)
	}
	return strings.Join(out, " ")
}

// blobs tells the keys of the device's blobs.
func (r *rig) blobs() []api.Hash {
	var out []api.Hash
	for _, b := range r.d.Media().Blobs {
		out = append(out, b.Key)
	}
	return out
}

// has holds the keys of the device's blobs against what the test names.
func (r *rig) has(promise string, want ...api.Hash) {
	r.t.Helper()
	if got := r.blobs(); !slices.Equal(got, rising(want)) {
		r.fails("%s: the device has %.3x, not %.3x", promise, got, rising(want))
	}
}

// state holds cache and quarantine against what the test names.
func (r *rig) state(promise string, cached, quarantine []api.Hash) {
	r.t.Helper()
	if !slices.Equal(r.s.Cached(), cached) || !slices.Equal(r.s.Quarantine(), quarantine) {
		r.fails("%s: cached %.3x, in quarantine %.3x, not %.3x, %.3x", promise, r.s.Cached(), r.s.Quarantine(), cached, quarantine)
	}
}

func sameMedia(a, b api.Media) bool {
	sameBlob := func(x, y api.Blob) bool { return x.Key == y.Key && bytes.Equal(x.Data, y.Data) }
	return a.Slots == b.Slots && a.Room == b.Room && a.Reg == b.Reg && bytes.Equal(a.Log, b.Log) && slices.EqualFunc(a.Blobs, b.Blobs, sameBlob)
}

func choice(kind, n int) api.Choice { return api.Choice{Kind: kind, N: n, M: n} }

// honest is so many honest choices with others behind them.
func honest(n int, then ...api.Choice) []api.Choice {
	return append(make([]api.Choice, n), then...)
}

// key is a hash that no node has, by its first byte.
func key(x byte) api.Hash { return api.Hash{x, 30: 1} }

// join is lists of hashes one behind the other.
func join(lists ...[]api.Hash) []api.Hash { return slices.Concat(lists...) }

// lack is those hashes of one list that do not stand in the others.
func lack(l []api.Hash, others ...[]api.Hash) []api.Hash {
	return slices.DeleteFunc(slices.Clone(l), func(h api.Hash) bool { return slices.Contains(join(others...), h) })
}

// union is all hashes of some lists, each once, rising.
func union(lists ...[]api.Hash) []api.Hash { return slices.Compact(rising(join(lists...))) }

// first and second are maps whose tries share nodes: a branch with two leaves below it, all by their hashes.
func first() map[string]string {
	return map[string]string{"\x11\x11": long, "\x11\x22": long + "!", "\x21": long + "?", "\x33\x44": "short"}
}

func second() map[string]string {
	m := first()
	m["\x21"] = long + "??"
	m["\x45"] = long + "5"
	m["\x46"] = long + "6"
	return m
}

func someString(rnd *rand.Rand, size int) string {
	b := make([]byte, size)
	rnd.Read(b)
	return string(b)
}

// someKey tells a key: some are dense, some long, some begin as others do.
func someKey(rnd *rand.Rand, kind int) string {
	switch kind {
	case 0: // few digits, short: beginnings of one another
		b := make([]byte, rnd.Intn(5))
		for i := range b {
			b[i] = []byte{0x00, 0x01, 0x10, 0x11, 0xf1, 0xff}[rnd.Intn(6)]
		}
		return string(b)
	case 1: // anything
		return someString(rnd, rnd.Intn(33))
	case 2: // the longest ones, with long beginnings in common
		b := bytes.Repeat([]byte{0x5a}, 32)
		for range rnd.Intn(3) {
			b[rnd.Intn(32)] ^= byte(1 << rnd.Intn(8))
		}
		return string(b)
	}
	return strings.Repeat("\x77", rnd.Intn(33)) // one behind the other
}

func someValue(rnd *rand.Rand) string {
	size := []int{1, 2, 20, 31, 32, 33, 55, 56, 255, 256, 1 + rnd.Intn(256)}[rnd.Intn(11)]
	return strings.Repeat(string([]byte{byte(1 + rnd.Intn(255))}), size)
}

// someMap tells a map of fewer than so many entries.
func someMap(rnd *rand.Rand, most int) map[string]string {
	entries := map[string]string{}
	kind := rnd.Intn(5)
	for range rnd.Intn(most) {
		k := kind
		if kind == 4 {
			k = rnd.Intn(4)
		}
		entries[someKey(rnd, k)] = someValue(rnd)
	}
	return entries
}

// changed tells a map that a few changes lead to.
func changed(rnd *rand.Rand, entries map[string]string) map[string]string {
	out := maps.Clone(entries)
	for range 1 + rnd.Intn(4) {
		out[someKey(rnd, rnd.Intn(4))] = someValue(rnd)
	}
	for _, key := range slices.Sorted(maps.Keys(entries)) {
		if rnd.Intn(8) == 0 {
			delete(out, key)
		}
	}
	return out
}
