package scrub_test

import (
	"bytes"
	"fmt"
	"maps"
	"math/rand"
	"slices"
	"strings"
	"testing"

	"cairn/api"
	"cairn/digest"
	"cairn/hstore"
	"cairn/media"
	"cairn/scrub"
	"cairn/shape"
)

func rounds(most int) int {
	if testing.Short() {
		return most / 10
	}
	return most
}

// fill writes one byte all over bytes and their spare room.
func fill(b []byte, x byte) {
	b = b[:cap(b)]
	for i := range b {
		b[i] = x
	}
}

// whole tells bytes with their spare room.
func whole(b []byte) string { return string(b[:cap(b)]) }

func newBook(t *testing.T, bits int) *digest.Book {
	t.Helper()
	book, e := digest.New(bits, 256, make([]byte, 32))
	if e != api.OK {
		t.Fatalf("a book of %d bits: %d", bits, e)
	}
	return book
}

// hasHashed tells whether a book has hashed a string.
func hasHashed(book *digest.Book, s string) bool {
	was, _ := book.Len()
	book.Hash([]byte(s))
	now, _ := book.Len()
	return now == was
}

// rig is a device with its book and a store over both; and twins of all three, to which the model does the same.
type rig struct {
	t        *testing.T
	bits     int
	book, bk *digest.Book
	d, twin  *media.Device
	s, st    *hstore.Store
	story    []string
}

// lay makes a rig over an empty device.
func lay(t *testing.T, slots, bits, cache int) *rig {
	t.Helper()
	return layOver(t, api.Media{Slots: slots, Room: 30, Log: []byte("a log"), Reg: api.Register{Count: 3, Tag: api.Hash{9}}}, bits, cache)
}

// layOver makes a rig over what a device keeps.
func layOver(t *testing.T, m api.Media, bits, cache int) *rig {
	t.Helper()
	r := &rig{t: t, bits: bits, book: newBook(t, bits), bk: newBook(t, bits)}
	var e, f api.Errno
	r.d, e = media.Load(m)
	r.twin, f = media.Load(m)
	if e != api.OK || f != api.OK {
		t.Fatalf("a device and its twin: %d, %d", e, f)
	}
	r.tell("a device of %d slots with %d blobs", m.Slots, len(m.Blobs))
	return r.open(cache)
}

// open makes a new store over the device, instead of the one that was there.
func (r *rig) open(cache int) *rig {
	r.t.Helper()
	var e, f api.Errno
	r.s, e = hstore.New(r.d, r.book, cache)
	r.st, f = hstore.New(r.twin, r.bk, cache)
	if e != api.OK || f != api.OK {
		r.t.Fatalf("a store and its twin: %d, %d", e, f)
	}
	r.tell("a store with a cache of %d", cache)
	return r
}

func (r *rig) tell(format string, what ...any) {
	r.story = append(r.story, fmt.Sprintf(format, what...))
}

// fails ends the test.
func (r *rig) fails(format string, what ...any) {
	r.t.Helper()
	tale := strings.Join(r.story[max(0, len(r.story)-30):], ", ")
	r.t.Fatalf("%s\nbehind %s", fmt.Sprintf(format, what...), tale)
}

// choose lays the choices for the accesses to come.
func (r *rig) choose(choices ...api.Choice) *rig {
	r.t.Helper()
	if e, f := r.d.Choose(choices...), r.twin.Choose(choices...); e != api.OK || f != api.OK {
		r.t.Fatalf("Choose: %d, %d", e, f)
	}
	r.tell("choices %v", choices)
	return r
}

func (r *rig) up() *rig {
	r.d.Up()
	r.twin.Up()
	r.tell("Up")
	return r
}

// put writes under a key past the store.
func (r *rig) put(key api.Hash, data string) {
	r.d.Put(key, []byte(data))
	r.twin.Put(key, []byte(data))
	r.tell("%d bytes under %x", len(data), key[:2])
}

// lose deletes what stands under a key past the store.
func (r *rig) lose(key api.Hash) {
	r.d.Delete(key)
	r.twin.Delete(key)
	r.tell("%x is lost", key[:2])
}

// read reads a hash by the store.
func (r *rig) read(h api.Hash) api.Errno {
	r.t.Helper()
	_, e := r.s.Node(h)
	if _, f := r.st.Node(h); e != f {
		r.fails("P10.4: Node(%x) answers %d, not %d", h[:2], e, f)
	}
	r.tell("Node(%x)", h[:2])
	return e
}

// forget has the store forget.
func (r *rig) forget(hs ...api.Hash) {
	r.s.Forget(hs...)
	r.st.Forget(hs...)
	r.tell("Forget of %d", len(hs))
}

// fresh reads a hash by the store, past the cache.
func (r *rig) fresh(h api.Hash) api.Errno {
	r.t.Helper()
	_, e := r.s.Fresh(h)
	if _, f := r.st.Fresh(h); e != f {
		r.fails("P10.5: Fresh(%x) answers %d, not %d", h[:2], e, f)
	}
	r.tell("Fresh(%x)", h[:2])
	return e
}

// trie is a map's trie.
type trie struct {
	root  api.Hash
	keys  []api.Hash // rising
	blobs []api.Blob
}

// trieOf tells the trie of a map.
func trieOf(t *testing.T, bits int, entries map[string]string) trie {
	t.Helper()
	book := newBook(t, bits)
	var l []api.Entry
	for key, value := range entries {
		l = append(l, api.Entry{Key: []byte(key), Value: []byte(value)})
	}
	l = shape.Sort(l)
	root, e := shape.Root(book, l)
	blobs, f := shape.Nodes(book, l)
	if e != api.OK || f != api.OK {
		t.Fatalf("14.5, 14.6: %d, %d", e, f)
	}
	m := trie{root: root, blobs: blobs}
	for _, b := range blobs {
		if !slices.Contains(m.keys, b.Key) {
			m.keys = append(m.keys, b.Key)
		}
	}
	return m
}

// plant writes the trie of a map to the device.
func (r *rig) plant(entries map[string]string) trie {
	r.t.Helper()
	m := trieOf(r.t, r.bits, entries)
	for _, b := range m.blobs {
		r.put(b.Key, string(b.Data))
	}
	return m
}

// tour is a pass over the rig's store, and the model's beside it.
type tour struct {
	*rig
	x *scrub.Scrub
	m *passModel
}

// begin begins a pass.
func (r *rig) begin(root api.Hash) *tour {
	r.t.Helper()
	r.tell("New(%x)", root[:2])
	x, e := scrub.New(r.s, r.book, root)
	if e != api.OK || x == nil {
		r.fails("22.1: New answers %d", e)
	}
	p := &tour{r, x, begun(r.bits, r.st, root)}
	p.look()
	return p
}

// step makes a step.
func (p *tour) step(n int) (api.Pass, api.Errno) {
	p.t.Helper()
	p.tell("Step(%d)", n)
	got, e := p.x.Step(n)
	want, f := p.m.step(n)
	if got != want || e != f {
		p.fails("22.2: Step(%d) answers %+v, %d, not %+v, %d", n, got, e, want, f)
	}
	p.look()
	return got, e
}

// look holds all that can be seen of a pass against the model.
func (p *tour) look() {
	p.t.Helper()
	for range 2 {
		if got, want := p.x.Pass(), p.m.pass(); got != want {
			p.fails("22.3: Pass() answers %+v, not %+v", got, want)
		}
		p.rig.look()
	}
}

// steps makes a step, and holds answer and accesses against what the test names.
func (p *tour) steps(promise string, n int, want api.Pass, e api.Errno, accesses string) {
	p.t.Helper()
	var got api.Pass
	var f api.Errno
	if made := p.made(func() { got, f = p.step(n) }); made != accesses {
		p.fails("%s, R6: the accesses of Step(%d) are %q, not %q", promise, n, made, accesses)
	}
	if got != want || e != f {
		p.fails("%s: Step(%d) answers %+v, %d, not %+v, %d", promise, n, got, f, want, e)
	}
}

// is holds where a pass stands against what the test names.
func (p *tour) is(promise string, want api.Pass) {
	p.t.Helper()
	if got := p.x.Pass(); got != want {
		p.fails("%s: Pass() answers %+v, not %+v", promise, got, want)
	}
}

// through goes on to the end of the pass, by steps of n.
func (p *tour) through(n int) api.Pass {
	p.t.Helper()
	for !p.x.Pass().Done {
		if _, e := p.step(n); e != api.OK {
			p.fails("22.2: Step(%d) answers %d", n, e)
		}
	}
	return p.x.Pass()
}

// repair repairs. What is handed in has spare room; it is looked at, and spoiled then: whoever has kept it loses it.
func (r *rig) repair(b string) api.Errno {
	r.t.Helper()
	r.tell("Repair(%.8x)", b)
	in := append([]byte(b), 7, 201, 0, 32, 255)[:len(b)]
	was := whole(in)
	e := scrub.Repair(r.s, in)
	if whole(in) != was {
		r.fails("R3: what was handed in is changed")
	}
	fill(in, 0x66)
	if f := mended(r.st, []byte(b)); e != f {
		r.fails("22.4: Repair answers %d, not %d", e, f)
	}
	r.look()
	return e
}

// repairs repairs, and holds error and accesses against what the test names.
func (r *rig) repairs(promise string, b string, want api.Errno, accesses string) {
	r.t.Helper()
	var e api.Errno
	if made := r.made(func() { e = r.repair(b) }); made != accesses {
		r.fails("%s, R6: the accesses of Repair are %q, not %q", promise, made, accesses)
	}
	if e != want {
		r.fails("%s: Repair answers %d, not %d", promise, e, want)
	}
}

// look holds all that can be seen of device, store and book against the twins.
func (r *rig) look() {
	r.t.Helper()
	if got, want := r.d.Accesses(), r.twin.Accesses(); !slices.Equal(got, want) {
		r.fails("R6: the accesses are %v, not %v", got, want)
	}
	if !sameMedia(r.d.Media(), r.twin.Media()) || r.d.Down() != r.twin.Down() {
		r.fails("22.8: the device has other things than it should")
	}
	if got, want := r.s.Cached(), r.st.Cached(); !slices.Equal(got, want) {
		r.fails("22.2: the cache has %.4x, not %.4x", got, want)
	}
	if got, want := r.s.Quarantine(), r.st.Quarantine(); !slices.Equal(got, want) {
		r.fails("22.2: the quarantine has %.4x, not %.4x", got, want)
	}
	if _, coded := r.book.Len(); coded != 0 {
		r.fails("R7: %d bodies were coded", coded)
	}
}

// names of the accesses.
var names = []string{"?", "get", "put", "delete", "list", "read", "append", "trim", "cut", "reg", "setreg"}

// made tells the accesses that a call makes, in their order; with a stroke where one was not done.
func (r *rig) made(call func()) string {
	was := len(r.d.Accesses())
	call()
	var out []string
	for _, a := range r.d.Accesses()[was:] {
		name := names[a.Kind]
		if !a.Done {
			name += "-"
		}
		out = append(out, name)
	}
	return strings.Join(out, " ")
}

// blobs tells the keys of the device's blobs.
func (r *rig) blobs() []api.Hash {
	var out []api.Hash
	for _, b := range r.d.Media().Blobs {
		out = append(out, b.Key)
	}
	return out
}

// has holds the keys of the device's blobs against what the test names.
func (r *rig) has(promise string, want ...api.Hash) {
	r.t.Helper()
	if got := r.blobs(); !slices.Equal(got, rising(want)) {
		r.fails("%s: the device has %.3x, not %.3x", promise, got, rising(want))
	}
}

// state holds cache and quarantine against what the test names.
func (r *rig) state(promise string, cached, quarantine []api.Hash) {
	r.t.Helper()
	if !slices.Equal(r.s.Cached(), cached) || !slices.Equal(r.s.Quarantine(), quarantine) {
		r.fails("%s: cached %.3x, in quarantine %.3x, not %.3x, %.3x", promise, r.s.Cached(), r.s.Quarantine(), cached, quarantine)
	}
}

func sameMedia(a, b api.Media) bool {
	sameBlob := func(x, y api.Blob) bool { return x.Key == y.Key && bytes.Equal(x.Data, y.Data) }
	return a.Slots == b.Slots && a.Room == b.Room && a.Reg == b.Reg && bytes.Equal(a.Log, b.Log) && slices.EqualFunc(a.Blobs, b.Blobs, sameBlob)
}

func choice(kind, n int) api.Choice { return api.Choice{Kind: kind, N: n, M: n} }

// honest is so many honest choices with others behind them.
func honest(n int, then ...api.Choice) []api.Choice {
	return append(make([]api.Choice, n), then...)
}

// key is a hash that no node has, by its first byte.
func key(x byte) api.Hash { return api.Hash{x, 30: 1} }

// join is lists of hashes one behind the other.
func join(lists ...[]api.Hash) []api.Hash { return slices.Concat(lists...) }

// lack is those hashes of one list that do not stand in the others.
func lack(l []api.Hash, others ...[]api.Hash) []api.Hash {
	return slices.DeleteFunc(slices.Clone(l), func(h api.Hash) bool { return slices.Contains(join(others...), h) })
}

// union is all hashes of some lists, each once, rising.
func union(lists ...[]api.Hash) []api.Hash { return slices.Compact(rising(join(lists...))) }

func someString(rnd *rand.Rand, size int) string {
	b := make([]byte, size)
	rnd.Read(b)
	return string(b)
}

// someKey tells a key: some are dense, some long, some begin as others do.
func someKey(rnd *rand.Rand, kind int) string {
	switch kind {
	case 0: // few digits, short: beginnings of one another
		b := make([]byte, rnd.Intn(5))
		for i := range b {
			b[i] = []byte{0x00, 0x01, 0x10, 0x11, 0xf1, 0xff}[rnd.Intn(6)]
		}
		return string(b)
	case 1: // anything
		return someString(rnd, rnd.Intn(33))
	case 2: // the longest ones, with long beginnings in common
		b := bytes.Repeat([]byte{0x5a}, 32)
		for range rnd.Intn(3) {
			b[rnd.Intn(32)] ^= byte(1 << rnd.Intn(8))
		}
		return string(b)
	}
	return strings.Repeat("\x77", rnd.Intn(33)) // one behind the other
}

func someValue(rnd *rand.Rand) string {
	size := []int{1, 2, 20, 31, 32, 33, 55, 56, 255, 256, 1 + rnd.Intn(256)}[rnd.Intn(11)]
	return strings.Repeat(string([]byte{byte(1 + rnd.Intn(255))}), size)
}

// someMap tells a map of fewer than so many entries.
func someMap(rnd *rand.Rand, most int) map[string]string {
	entries := map[string]string{}
	kind := rnd.Intn(5)
	for range rnd.Intn(most) {
		k := kind
		if kind == 4 {
			k = rnd.Intn(4)
		}
		entries[someKey(rnd, k)] = someValue(rnd)
	}
	return entries
}

// changed tells a map that a few changes lead to.
func changed(rnd *rand.Rand, entries map[string]string) map[string]string {
	out := maps.Clone(entries)
	for range 1 + rnd.Intn(4) {
		out[someKey(rnd, rnd.Intn(4))] = someValue(rnd)
	}
	for _, key := range slices.Sorted(maps.Keys(entries)) {
		if rnd.Intn(8) == 0 {
			delete(out, key)
		}
	}
	return out
}
