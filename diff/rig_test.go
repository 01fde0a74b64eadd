package diff_test

import (
	"fmt"
	"maps"
	"runtime/debug"
	"slices"
	"strings"
	"testing"

	"cairn/api"
	"cairn/diff"
	"cairn/digest"
	"cairn/node"
)

// TestMain lets much rubbish lie: what is held against the model makes a lot of it.
func TestMain(m *testing.M) {
	debug.SetGCPercent(800)
	m.Run()
}

func rounds(most int) int {
	if testing.Short() {
		return most / 10
	}
	return most
}

// whole tells bytes with their spare room.
func whole(b []byte) string { return string(b[:cap(b)]) }

// fill writes one byte all over bytes and their spare room.
func fill(b []byte, x byte) {
	b = b[:cap(b)]
	for i := range b {
		b[i] = x
	}
}

// roomy tells a copy of bytes whose spare room is filled with marks.
func roomy(s string) []byte {
	return append([]byte(s), 7, 201, 0, 32, 255, 16, 9, 204)[:len(s)]
}

// shelf is a source that tells what was laid on it, and can be made to tell something else. It has one memory for all
// that it tells, with marks in its spare room: so whoever keeps that memory loses what stood there.
type shelf struct {
	blobs   map[api.Hash]string
	also    map[api.Hash][]string // what it tells by turns, beside the blob
	errs    map[api.Hash]api.Errno
	asked   []api.Hash
	memory  []byte
	was     string // the memory, spare room too, as it was told
	changed bool
}

func newShelf() *shelf {
	return &shelf{blobs: map[api.Hash]string{}, also: map[api.Hash][]string{}, errs: map[api.Hash]api.Errno{}}
}

// look tells whether what was told last is still as it was.
func (s *shelf) look() bool {
	s.changed = s.changed || whole(s.memory) != s.was
	return !s.changed
}

func (s *shelf) Node(h api.Hash) ([]byte, api.Errno) {
	s.look()
	fill(s.memory, 0xee)
	s.asked = append(s.asked, h)
	b, e := s.tells(h, len(s.asked))
	s.memory = append(append(s.memory[:0], b...), 7, 201, 0, 32, 255, 16, 9, 204)[:len(b)]
	s.was = whole(s.memory)
	return s.memory, e
}

// tells what it tells under a hash at the turn of a number.
func (s *shelf) tells(h api.Hash, turn int) (string, api.Errno) {
	b, there := s.blobs[h]
	if others := s.also[h]; turn%(len(others)+1) > 0 {
		b = others[turn%(len(others)+1)-1]
	}
	e := s.errs[h]
	if !there && e == api.OK {
		e = api.ErrAbsent
	}
	return b, e
}

// rig is a book with a shelf of nodes.
type rig struct {
	t    *testing.T
	bits int
	book *digest.Book
	src  *shelf
}

func newRig(t *testing.T, bits int) *rig {
	t.Helper()
	book, e := digest.New(bits, 256, make([]byte, 32))
	if e != api.OK {
		t.Fatalf("a book of %d bits: %d", bits, e)
	}
	return &rig{t: t, bits: bits, book: book, src: newShelf()}
}

func (r *rig) empty() api.Hash { return hashOf(r.bits, "\x80") }

// lay lays an encoding on the shelf, and tells its hash.
func (r *rig) lay(encoding string) api.Hash {
	h := hashOf(r.bits, encoding)
	r.src.blobs[h] = encoding
	return h
}

// byHash lays an encoding on the shelf, and tells the item by which it stands in another node, however short it is.
func (r *rig) byHash(encoding string) string {
	h := r.lay(encoding)
	return item(string(h[:]))
}

// ref tells how an encoding stands in another node; one that stands there by its hash is laid on the shelf.
func (r *rig) ref(encoding string) string {
	if len(encoding) < 32 {
		return encoding
	}
	return r.byHash(encoding)
}

// trie lays the trie of a map, whose keys are told in digits here, and tells its root node's encoding (chapter 14).
func (r *rig) trie(entries map[string]string) string {
	keys := slices.Sorted(maps.Keys(entries))
	first, last := keys[0], keys[len(keys)-1]
	if len(keys) == 1 {
		return leaf(first, entries[first])
	}
	common := 0
	for common < min(len(first), len(last)) && first[common] == last[common] {
		common++
	}
	if common > 0 {
		return ext(first[:common], r.ref(r.trie(behind(entries, first[:common]))))
	}
	var kids []kid
	for i := range 16 {
		if part := behind(entries, fmt.Sprintf("%x", i)); len(part) > 0 {
			kids = append(kids, kid{i, r.ref(r.trie(part))})
		}
	}
	return branch(entries[""], kids...)
}

// behind tells the entries whose keys begin so, with that taken off.
func behind(entries map[string]string, path string) map[string]string {
	out := map[string]string{}
	for k, v := range entries {
		if rest, begins := strings.CutPrefix(k, path); begins {
			out[rest] = v
		}
	}
	return out
}

// plant lays the trie of a map on the shelf, and tells its root.
func (r *rig) plant(entries map[string]string) api.Hash {
	if len(entries) == 0 {
		return r.empty()
	}
	inDigits := map[string]string{}
	for k, v := range entries {
		inDigits[fmt.Sprintf("%x", k)] = v
	}
	return r.lay(r.trie(inDigits))
}

// deltas tells differences as texts.
func deltas(ds []api.Delta) []delta {
	var out []delta
	for _, d := range ds {
		out = append(out, delta{string(d.Key), string(d.Old), string(d.New), d.Was, d.Is})
	}
	return out
}

// turned tells differences the other way round.
func turned(ds []delta) []delta {
	var out []delta
	for _, d := range ds {
		out = append(out, delta{d.key, d.new, d.old, d.is, d.was})
	}
	return out
}

// differences tells what two maps differ in, by their keys rising.
func differences(old, now map[string]string) []delta {
	all := map[string]string{}
	maps.Copy(all, old)
	maps.Copy(all, now)
	var out []delta
	for _, key := range slices.Sorted(maps.Keys(all)) {
		v, was := old[key]
		w, is := now[key]
		if v != w {
			out = append(out, delta{key, v, w, was, is})
		}
	}
	return out
}

// spot is a node that stands by its hash, at its place.
type spot struct {
	place string
	hash  api.Hash
}

// spots tells all nodes of a trie that stand by their hash, each at each of its places, in the order of places.
func (r *rig) spots(root api.Hash) []spot {
	if root == r.empty() {
		return nil
	}
	var out []spot
	var at func(place string, ref api.Ref)
	at = func(place string, ref api.Ref) {
		b := ref.Node
		switch ref.Kind {
		case api.RefNone:
			return
		case api.RefHash:
			out = append(out, spot{place, ref.Hash})
			b = []byte(r.src.blobs[ref.Hash])
		}
		n, e := node.Decode(b)
		if e != api.OK {
			r.t.Fatalf("at %s stands no node: %d", place, e)
		}
		at(place+digits(n.Path), n.Next)
		for i, k := range n.Kids {
			at(place+fmt.Sprintf("%x", i), k)
		}
	}
	at("", api.Ref{Kind: api.RefHash, Hash: root})
	return out
}

// alone tells which of the hashes of two tries are to be read (24.6): those that one of them alone has at a place, by the places, at each
// the old trie's first.
func (r *rig) alone(old, now api.Hash) []api.Hash {
	a, b := r.spots(old), r.spots(now)
	var left []spot
	for _, s := range a {
		if !slices.Contains(b, s) {
			left = append(left, s)
		}
	}
	for _, s := range b {
		if !slices.Contains(a, s) {
			left = append(left, s)
		}
	}
	slices.SortStableFunc(left, func(x, y spot) int { return strings.Compare(x.place, y.place) })
	var out []api.Hash
	for _, s := range left {
		out = append(out, s.hash)
	}
	return out
}

// diff does a Diff, and holds all that is to be seen against the model.
func (r *rig) diff(promise string, old, now api.Hash) ([]delta, api.Errno) {
	r.t.Helper()
	want := differ(r.bits, r.src, old, now)
	r.src.asked = nil
	ds, e := diff.Diff(r.src, r.book, old, now)
	if got := deltas(ds); !slices.Equal(got, want.told) || e != want.e {
		r.t.Fatalf("%s, 24.1: %.400v, %d, not %.400v, %d", promise, got, e, want.told, want.e)
	}
	if !slices.Equal(r.src.asked, want.asked) {
		r.t.Fatalf("%s, 24.2: asked for %.3x, not for %.3x", promise, r.src.asked, want.asked)
	}
	if !r.src.look() {
		r.t.Fatalf("%s, R3: what the source told is changed", promise)
	}
	return want.told, e
}

// both does it both ways, and holds the one against the other where both are OK.
func (r *rig) both(promise string, old, now api.Hash) ([]delta, api.Errno) {
	r.t.Helper()
	back, f := r.diff(promise+" (turned about)", now, old)
	ds, e := r.diff(promise, old, now)
	if (e == api.OK) != (f == api.OK) || e == api.OK && !slices.Equal(turned(back), ds) {
		r.t.Fatalf("%s, 24.5: %.400v, %d, and turned about %.400v, %d", promise, ds, e, back, f)
	}
	return ds, e
}

// tells looks that two tries differ in just these, and that just so many nodes are read.
func (r *rig) tells(promise string, old, now api.Hash, read int, want ...delta) {
	r.t.Helper()
	ds, e := r.both(promise, old, now)
	if !slices.Equal(ds, want) || e != api.OK || len(r.src.asked) != read {
		r.t.Errorf("%s: %.400v, %d, with %d read, not %.400v with %d", promise, ds, e, len(r.src.asked), want, read)
	}
}

// refused looks that an error is the answer, with so many nodes asked for; of the other way round nothing is said.
func (r *rig) refused(promise string, old, now api.Hash, want api.Errno, asked int) {
	r.t.Helper()
	ds, e := r.diff(promise, old, now)
	if len(ds) != 0 || e != want || len(r.src.asked) != asked {
		r.t.Errorf("%s: %.400v, %d, with %d asked, not error %d with %d", promise, ds, e, len(r.src.asked), want, asked)
	}
}

// maps holds what two maps' tries are told to differ in against the maps, and what is read against the tries.
func (r *rig) maps(promise string, old, now map[string]string) []delta {
	r.t.Helper()
	a, b := r.plant(old), r.plant(now)
	ds, e := r.both(promise, a, b)
	if want := differences(old, now); !slices.Equal(ds, want) || e != api.OK {
		r.t.Fatalf("%s, 24.4: %.400v, %d, not %.400v", promise, ds, e, want)
	}
	if want := r.alone(a, b); !slices.Equal(r.src.asked, want) {
		r.t.Fatalf("%s, 24.6: %.3x are read, not %.3x", promise, r.src.asked, want)
	}
	return ds
}
