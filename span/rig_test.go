package span_test

import (
	"fmt"
	"maps"
	"math/rand"
	"slices"
	"strings"
	"testing"

	"cairn/api"
	"cairn/cursor"
	"cairn/digest"
	"cairn/proof"
	"cairn/span"
)

func rounds(most int) int {
	if testing.Short() {
		return most / 10
	}
	return most
}

// fill writes one byte all over bytes and their spare room.
func fill(b []byte, x byte) {
	b = b[:cap(b)]
	for i := range b {
		b[i] = x
	}
}

// isAll tells whether bytes and their spare room are one byte all over.
func isAll(b []byte, x byte) bool {
	return !slices.ContainsFunc(b[:cap(b)], func(y byte) bool { return y != x })
}

// roomy tells a copy of bytes whose spare room is filled with marks.
func roomy(s string) []byte {
	return append([]byte(s), 7, 201, 0, 32, 255, 16, 9, 204)[:len(s)]
}

// whole tells bytes with their spare room.
func whole(b []byte) string { return string(b[:cap(b)]) }

// sized tells a string of so many bytes.
func sized(n int) string {
	b := make([]byte, n)
	for i := range b {
		b[i] = byte(7*i + n)
	}
	return string(b)
}

// many tells a list of so many of one string.
func many(n int, s string) []string { return slices.Repeat([]string{s}, n) }

// shelf is a source that tells what was laid on it, and can be made to tell something else. It has one memory for all
// that it tells, with marks in its spare room: so whoever keeps that memory loses what stood there.
type shelf struct {
	blobs   map[api.Hash]string
	errs    map[api.Hash]api.Errno
	asked   []api.Hash
	memory  []byte
	was     string // the memory, spare room too, as it was told
	changed bool
}

func newShelf() *shelf {
	return &shelf{blobs: map[api.Hash]string{}, errs: map[api.Hash]api.Errno{}}
}

// look tells whether what was told last is still as it was.
func (s *shelf) look() bool {
	s.changed = s.changed || whole(s.memory) != s.was
	return !s.changed
}

func (s *shelf) Node(h api.Hash) ([]byte, api.Errno) {
	s.look()
	fill(s.memory, 0xee)
	s.asked = append(s.asked, h)
	b, e := s.tells(h)
	s.memory = append(append(s.memory[:0], b...), 7, 201, 0, 32, 255, 16, 9, 204)[:len(b)]
	s.was = whole(s.memory)
	return s.memory, e
}

func (s *shelf) tells(h api.Hash) (string, api.Errno) {
	b, there := s.blobs[h]
	e := s.errs[h]
	if !there && e == api.OK {
		e = api.ErrAbsent
	}
	return b, e
}

// told tells the strings of all that was asked for, as far as they are there.
func (s *shelf) told() []string {
	var out []string
	for _, h := range s.asked {
		if b, there := s.blobs[h]; there {
			out = append(out, b)
		}
	}
	return out
}

func newBook(t *testing.T, bits int) *digest.Book {
	t.Helper()
	book, e := digest.New(bits, 256, make([]byte, 32))
	if e != api.OK {
		t.Fatalf("a book of %d bits: %d", bits, e)
	}
	return book
}

// rig is a book with a shelf of nodes.
type rig struct {
	t    *testing.T
	bits int
	book *digest.Book
	src  *shelf
}

func newRig(t *testing.T, bits int) *rig {
	t.Helper()
	return &rig{t: t, bits: bits, book: newBook(t, bits), src: newShelf()}
}

func (r *rig) hash(encoding string) api.Hash { return hashOf(r.bits, encoding) }

// lay lays an encoding on the shelf, and tells its hash.
func (r *rig) lay(encoding string) api.Hash {
	h := r.hash(encoding)
	r.src.blobs[h] = encoding
	return h
}

// byHash lays an encoding on the shelf, and tells the item by which it stands in another node, however short it is.
func (r *rig) byHash(encoding string) string {
	h := r.lay(encoding)
	return item(string(h[:]))
}

// ref tells how an encoding stands in another node; one that stands there by its hash is laid on the shelf.
func (r *rig) ref(encoding string) string {
	if len(encoding) < 32 {
		return encoding
	}
	return r.byHash(encoding)
}

// plant lays the trie of a map on the shelf.
func (r *rig) plant(entries map[string]string) *trie {
	m := plant(r.bits, entries)
	for _, s := range m.spots {
		r.lay(s.encoding)
	}
	return m
}

// boundsOf are bounds in memory with spare room.
func boundsOf(b bounds) api.Bounds {
	return api.Bounds{From: roomy(b.from), To: roomy(b.to), Open: b.open}
}

// pairs tells entries as texts.
func pairs(l []api.Entry) []pair {
	var out []pair
	for _, x := range l {
		out = append(out, pair{string(x.Key), string(x.Value)})
	}
	return out
}

// callProve calls Prove; it looks whether what was handed in or told is as it was, and spoils it, so that whoever has kept it loses it.
func (r *rig) callProve(root api.Hash, b bounds) made {
	r.t.Helper()
	in := boundsOf(b)
	low, high := whole(in.From), whole(in.To)
	r.src.asked = nil
	p, e := span.Prove(r.src, r.book, root, in)
	if whole(in.From) != low || whole(in.To) != high || !r.src.look() {
		r.t.Errorf("R3: Prove has changed what it was handed or told")
	}
	out := made{string(p), slices.Clone(r.src.asked), e}
	for _, x := range [][]byte{in.From, in.To, r.src.memory} {
		fill(x, 0x66)
	}
	if string(p) != out.proof {
		r.t.Errorf("R3: what Prove answers shares memory with what it was handed or told")
	}
	fill(p, 0x99)
	if !isAll(in.From, 0x66) || !isAll(in.To, 0x66) || !isAll(r.src.memory, 0x66) {
		r.t.Errorf("R3: what Prove answers shares its spare room with what it was handed or told")
	}
	r.src.was = whole(r.src.memory)
	return out
}

// callVerify calls Verify likewise.
func (r *rig) callVerify(root api.Hash, b bounds, bytes string) verdict {
	r.t.Helper()
	in, shown := boundsOf(b), roomy(bytes)
	low, high, was := whole(in.From), whole(in.To), whole(shown)
	l, e := span.Verify(r.book, root, in, shown)
	if whole(in.From) != low || whole(in.To) != high || whole(shown) != was {
		r.t.Errorf("R3: Verify has changed what it was handed")
	}
	out := verdict{pairs(l), e}
	for _, x := range [][]byte{in.From, in.To, shown} {
		fill(x, 0x66)
	}
	if !slices.Equal(pairs(l), out.entries) {
		r.t.Errorf("R3: what Verify answers shares memory with what it was handed")
	}
	for _, x := range l {
		fill(x.Key, 0x99)
		fill(x.Value, 0x99)
	}
	if !isAll(in.From, 0x66) || !isAll(in.To, 0x66) || !isAll(shown, 0x66) {
		r.t.Errorf("R3: what Verify answers shares its spare room with what it was handed")
	}
	return out
}

const noLimit = 1 << 30

// prove asks Prove twice, and holds all that is to be seen of it against the model and against a scan of the same range.
func (r *rig) prove(promise string, root api.Hash, b bounds) made {
	r.t.Helper()
	want := makeProof(r.bits, r.src, root, b)
	for range 2 {
		got := r.callProve(root, b)
		if got.proof != want.proof || got.e != want.e {
			r.t.Fatalf("%s, 17.2: %v: Prove answers %.60x, %d, not %.60x, %d", promise, b, got.proof, got.e, want.proof, want.e)
		}
		if !slices.Equal(got.asked, want.asked) {
			r.t.Fatalf("%s, 17.2: %v: Prove asks for %.3x, not for %.3x", promise, b, got.asked, want.asked)
		}
	}
	if want.e == api.ErrFull {
		return want
	}
	r.src.asked = nil
	if _, _, e := cursor.Scan(r.src, r.book, root, boundsOf(b), noLimit); e != want.e || !slices.Equal(r.src.asked, want.asked) {
		r.t.Fatalf("%s, 17.1: %v: a scan answers %d and asks for %.3x, by the model %d, %.3x", promise, b, e, r.src.asked, want.e, want.asked)
	}
	return want
}

// teller is a source that tells strings one behind the other, whatever it is asked for: a scan over it goes the way that 17.3 says.
type teller struct{ left [][]byte }

func (s *teller) Node(api.Hash) ([]byte, api.Errno) {
	if len(s.left) == 0 {
		return nil, api.ErrAbsent
	}
	b := s.left[0]
	s.left = s.left[1:]
	return b, api.OK
}

// scanned tells what a scan makes of a proof's strings.
func (r *rig) scanned(root api.Hash, b bounds, bytes string) verdict {
	l, e := proof.Unpack([]byte(bytes))
	src := &teller{l}
	entries, _, f := cursor.Scan(src, r.book, root, boundsOf(b), noLimit)
	switch {
	case f == api.ErrInput:
		return verdict{e: f}
	case e != api.OK || f != api.OK || len(src.left) > 0:
		return proofless
	}
	return verdict{entries: pairs(entries)}
}

// verify asks Verify twice, and holds the answers against the model and against a scan over the proof's strings.
func (r *rig) verify(promise string, root api.Hash, b bounds, bytes string) verdict {
	r.t.Helper()
	want := judge(r.bits, root, b, bytes)
	if other := r.scanned(root, b, bytes); !other.is(want) {
		r.t.Fatalf("%s, 17.3: %v with %.60x: by a scan %v, by the model %v", promise, b, bytes, other, want)
	}
	for range 2 {
		if got := r.callVerify(root, b, bytes); !got.is(want) {
			r.t.Fatalf("%s, 17.3: %v with %.60x (%d bytes): Verify answers %v, not %v", promise, b, bytes, len(bytes), got, want)
		}
	}
	return want
}

// both proves a range and holds the proof against the root; where there is none, it holds what the source told against it.
func (r *rig) both(promise string, root api.Hash, b bounds) (made, verdict) {
	r.t.Helper()
	m := r.prove(promise, root, b)
	r.src.asked = m.asked
	if m.e != api.OK {
		v := r.verify(promise, root, b, listOf(r.src.told()...))
		if b.mayBe() && !v.is(proofless) {
			r.t.Fatalf("%s: %v: Prove answers %d; what was told is accepted as %v", promise, b, m.e, v)
		}
		return m, v
	}
	v := r.verify(promise, root, b, m.proof)
	if v.e != api.OK {
		r.t.Fatalf("%s, 17.4: %v: what Prove answers is refused: %d", promise, b, v.e)
	}
	if l, more, e := cursor.Scan(r.src, r.book, root, boundsOf(b), noLimit); !slices.Equal(pairs(l), v.entries) || more || e != api.OK {
		r.t.Fatalf("%s, 17.4: %v: Verify tells %v, Scan %d entries, %d", promise, b, v, len(l), e)
	}
	return m, v
}

// tells proves a range, and looks that just these keys are told, with so many nodes read and shown.
func (r *rig) tells(promise string, root api.Hash, b bounds, read int, keys ...string) {
	r.t.Helper()
	m, v := r.both(promise, root, b)
	var at []string
	for _, x := range v.entries {
		at = append(at, x.key)
	}
	l, _ := proof.Unpack([]byte(m.proof))
	if !slices.Equal(at, keys) || v.e != api.OK || len(m.asked) != read || len(l) != read {
		r.t.Errorf("%s: %v: %x, %d, with %d read and %d shown, not %x with %d", promise, b, at, v.e, len(m.asked), len(l), keys, read)
	}
}

// refused looks that a range is not proven, with the source asked so often.
func (r *rig) refused(promise string, root api.Hash, b bounds, want api.Errno, asked int) {
	r.t.Helper()
	if m, _ := r.both(promise, root, b); m.proof != "" || m.e != want || len(m.asked) != asked {
		r.t.Errorf("%s: %v: %.60x, %d, with %d asked, not error %d with %d", promise, b, m.proof, m.e, len(m.asked), want, asked)
	}
}

// proves holds strings against a root and bounds within which they should show just these entries.
func (r *rig) proves(promise string, root api.Hash, b bounds, want []pair, l ...string) {
	r.t.Helper()
	if got := r.verify(promise, root, b, listOf(l...)); !got.is(verdict{entries: want}) {
		r.t.Errorf("%s: %v with %d strings: %v, not %v", promise, b, len(l), got, verdict{entries: want})
	}
}

// refuses holds strings against a root and bounds for which they should prove nothing.
func (r *rig) refuses(promise string, root api.Hash, b bounds, l ...string) {
	r.t.Helper()
	r.refusesBytes(promise, root, b, listOf(l...))
}

// refusesBytes holds bytes against a root and bounds for which they should prove nothing.
func (r *rig) refusesBytes(promise string, root api.Hash, b bounds, bytes string) {
	r.t.Helper()
	if got := r.verify(promise, root, b, bytes); !got.is(proofless) {
		r.t.Errorf("%s: %v with %.60x (%d bytes): %v, not error 160", promise, b, bytes, len(bytes), got)
	}
}

// grove is a map whose trie has whole nodes and nodes by their hashes.
func grove() map[string]string {
	return map[string]string{"": "e", "\x12": "a", "\x12\x34": long, "\x12\x35": "b", "\x12\x35\x67": long + "!", "\x77": "seven", "\x78": "eight", "\x79\x99": "n", unhex(deep[:64]): long, unhex(deep[:62]): "up"}
}

func someString(rnd *rand.Rand, size int) string {
	b := make([]byte, size)
	rnd.Read(b)
	return string(b)
}

// someKey tells a key: some are dense, some long, some begin as others do.
func someKey(rnd *rand.Rand, kind int) string {
	switch kind {
	case 0: // few digits, short: beginnings of one another
		b := make([]byte, rnd.Intn(5))
		for i := range b {
			b[i] = []byte{0x00, 0x01, 0x10, 0x11, 0xf1, 0xff}[rnd.Intn(6)]
		}
		return string(b)
	case 1: // anything
		return someString(rnd, rnd.Intn(33))
	case 2: // the longest ones, with long beginnings in common
		b := []byte(unhex(deep[:64]))
		for range rnd.Intn(3) {
			b[rnd.Intn(32)] ^= byte(1 << rnd.Intn(8))
		}
		return string(b)
	}
	return strings.Repeat("\x77", rnd.Intn(33)) // one behind the other
}

func someValue(rnd *rand.Rand) string {
	size := []int{1, 2, 20, 31, 32, 33, 55, 56, 255, 256, 1 + rnd.Intn(256)}[rnd.Intn(11)]
	return strings.Repeat(string([]byte{byte(1 + rnd.Intn(255))}), size)
}

func someMap(rnd *rand.Rand) map[string]string {
	entries := map[string]string{}
	kind := rnd.Intn(5)
	for range rnd.Intn(30) {
		k := kind
		if kind == 4 {
			k = rnd.Intn(4)
		}
		entries[someKey(rnd, k)] = someValue(rnd)
	}
	return entries
}

// near tells a key that is a map's, or is like one, or any.
func near(rnd *rand.Rand, entries map[string]string) string {
	key := ""
	if len(entries) > 0 {
		key = slices.Sorted(maps.Keys(entries))[rnd.Intn(len(entries))]
	}
	switch rnd.Intn(6) {
	case 0:
		return key[:rnd.Intn(len(key)+1)]
	case 1:
		b := []byte(key)
		if len(b) > 0 {
			b[rnd.Intn(len(b))] ^= byte(1 << rnd.Intn(8))
		}
		return string(b)
	case 2:
		longer := key + someKey(rnd, 0)
		return longer[:min(32, len(longer))]
	case 3:
		return someKey(rnd, rnd.Intn(4))
	}
	return key
}

func someBounds(rnd *rand.Rand, entries map[string]string) bounds {
	if rnd.Intn(3) == 0 {
		return from(near(rnd, entries))
	}
	low, high := near(rnd, entries), near(rnd, entries)
	if low > high && rnd.Intn(6) > 0 {
		low, high = high, low
	}
	return within(low, high)
}

// keysAround tells all keys that end at a place on the way of one of these keys, or just beside it.
func keysAround(keys []string) []string {
	set := map[string]struct{}{"": {}, "\x00": {}, "\xff": {}, strings.Repeat("\xff", 32): {}}
	for _, k := range keys {
		for n := range len(k) + 1 {
			set[k[:n]] = struct{}{}
			if n > 0 {
				for _, d := range []int{-16, -1, 1, 16} {
					set[k[:n-1]+string([]byte{byte(int(k[n-1]) + d)})] = struct{}{}
				}
			}
		}
		if len(k) < 32 {
			set[k+"\x00"], set[k+"\xff"] = struct{}{}, struct{}{}
		}
	}
	return slices.Sorted(maps.Keys(set))
}

// allBounds tells all bounds that end at these keys.
func allBounds(ends []string) []bounds {
	var out []bounds
	for _, low := range ends {
		out = append(out, from(low))
		for _, high := range ends {
			out = append(out, within(low, high))
		}
	}
	return out
}

func nameOf(bits int, nodes map[string]string, h api.Hash) string {
	for name, encoding := range nodes {
		if hashOf(bits, encoding) == h {
			return name
		}
	}
	return fmt.Sprintf("%.3x", h)
}
