package grow_test

import (
	"fmt"
	"maps"
	"slices"
	"strings"
	"testing"

	"cairn/api"
	"cairn/digest"
	"cairn/find"
	"cairn/grow"
)

// shelf is a source that tells what was laid on it, and can be made to tell something else. It has one memory for all
// that it tells, with marks in its spare room: so whoever keeps that memory loses what stood there.
type shelf struct {
	blobs   map[api.Hash]string
	errs    map[api.Hash]api.Errno
	asked   []api.Hash
	memory  []byte
	was     string // the memory, spare room too, as it was told
	changed bool
}

func newShelf() *shelf {
	return &shelf{blobs: map[api.Hash]string{}, errs: map[api.Hash]api.Errno{}}
}

// look tells whether what was told last is still as it was.
func (s *shelf) look() bool {
	s.changed = s.changed || string(s.memory[:cap(s.memory)]) != s.was
	return !s.changed
}

func (s *shelf) Node(h api.Hash) ([]byte, api.Errno) {
	s.look()
	fill(s.memory, 0xee)
	s.asked = append(s.asked, h)
	b, e := s.tells(h)
	s.memory = append(append(s.memory[:0], b...), 7, 201, 0, 32, 255, 16, 9, 204)[:len(b)]
	s.was = string(s.memory[:cap(s.memory)])
	return s.memory, e
}

func (s *shelf) tells(h api.Hash) (string, api.Errno) {
	b, there := s.blobs[h]
	e := s.errs[h]
	if !there && e == api.OK {
		e = api.ErrAbsent
	}
	return b, e
}

// fill writes one byte all over bytes and their spare room.
func fill(b []byte, x byte) {
	b = b[:cap(b)]
	for i := range b {
		b[i] = x
	}
}

// roomy tells a copy of bytes whose spare room is filled with marks.
func roomy(s string) []byte {
	return append([]byte(s), 7, 201, 0, 32, 255, 16, 9, 204)[:len(s)]
}

// rig is a stage over a shelf, and the model beside it.
type rig struct {
	t     *testing.T
	bits  int
	book  *digest.Book
	src   *shelf
	stage *grow.Stage
	model *model
}

func newRig(t *testing.T, bits int) *rig {
	t.Helper()
	r := &rig{t: t, bits: bits, book: newBook(t, bits), src: newShelf()}
	r.anew()
	return r
}

func newBook(t *testing.T, bits int) *digest.Book {
	t.Helper()
	book, e := digest.New(bits, 256, make([]byte, 32))
	if e != api.OK {
		t.Fatalf("a book of %d bits: %d", bits, e)
	}
	return book
}

// anew takes an empty stage over the same shelf.
func (r *rig) anew() {
	r.t.Helper()
	s, e := grow.New(r.src, r.book)
	if s == nil || e != api.OK || s.Len() != 0 {
		r.t.Fatalf("12.1: New is %v, %d, with %d staged", s, e, s.Len())
	}
	r.stage, r.model = s, &model{bits: r.bits, src: r.src, staged: map[api.Hash]string{}}
}

// settle lays all that is staged on the shelf, and takes an empty stage.
func (r *rig) settle() {
	r.t.Helper()
	maps.Copy(r.src.blobs, r.model.staged)
	r.anew()
}

func (r *rig) empty() api.Hash { return hashOf(r.bits, "\x80") }

// lay lays an encoding on the shelf, and tells its hash.
func (r *rig) lay(encoding string) api.Hash {
	h := hashOf(r.bits, encoding)
	r.src.blobs[h] = encoding
	return h
}

// byHash lays an encoding on the shelf, and tells the item by which it stands in another node, however short it is.
func (r *rig) byHash(encoding string) string {
	h := r.lay(encoding)
	return item(string(h[:]))
}

// plant lays the trie of a map on the shelf, and tells its root.
func (r *rig) plant(entries map[string]string) api.Hash {
	root, nodes := r.trie(entries)
	for place, encoding := range nodes {
		if place == "" || len(encoding) >= 32 {
			r.lay(encoding)
		}
	}
	return root
}

// trie tells the root of a map's trie, and its nodes by their places.
func (r *rig) trie(entries map[string]string) (api.Hash, map[string]string) {
	nodes := map[string]string{}
	if len(entries) == 0 {
		return r.empty(), nodes
	}
	ps := pieces{}
	for k, v := range entries {
		ps[fmt.Sprintf("%x", k)] = piece{value: v}
	}
	r.model.build(ps, "", nodes)
	return hashOf(r.bits, nodes[""]), nodes
}

func put(key, value string) api.Change { return api.Change{Key: []byte(key), Value: []byte(value)} }
func gone(key string) api.Change       { return api.Change{Key: []byte(key), Gone: true} }

// handedIn tells roomy copies of changes, in a roomy list, with what says whether they have changed.
func handedIn(changes []api.Change) ([]api.Change, func() bool) {
	out := make([]api.Change, 0, len(changes)+2)
	for _, c := range changes {
		out = append(out, api.Change{Key: roomy(string(c.Key)), Value: roomy(string(c.Value)), Gone: c.Gone})
	}
	out = append(out, put("spare", "room"), gone("spare"))[:len(changes)]
	tell := func() string {
		text := ""
		for _, c := range out[:cap(out)] {
			text += fmt.Sprintf("%x %x %d %d %v ", c.Key[:cap(c.Key)], c.Value[:cap(c.Value)], len(c.Key), len(c.Value), c.Gone)
		}
		return text
	}
	was := tell()
	return out, func() bool { return tell() != was }
}

// call does changes by the call that has no more than these: Put, Delete or Apply.
func (r *rig) call(root api.Hash, changes []api.Change) (api.Hash, api.Errno) {
	r.t.Helper()
	handed, changed := handedIn(changes)
	defer func() {
		r.t.Helper()
		if changed() || !r.src.look() {
			r.t.Errorf("R3: what was handed in, or told by the source, is changed")
		}
		for _, c := range handed[:cap(handed)] { // whoever keeps it loses it
			fill(c.Key, 0x66)
			fill(c.Value, 0x66)
		}
		clear(handed[:cap(handed)])
	}()
	if len(handed) != 1 || handed[0].Gone && len(handed[0].Value) > 0 {
		return r.stage.Apply(root, handed)
	}
	if handed[0].Gone {
		return r.stage.Delete(root, handed[0].Key)
	}
	return r.stage.Put(root, handed[0].Key, handed[0].Value)
}

// do does changes, and holds all that is to be seen against the model.
func (r *rig) do(promise string, root api.Hash, changes ...api.Change) (api.Hash, api.Errno) {
	r.t.Helper()
	want, wantE := r.model.apply(root, changes)
	r.src.asked = nil
	got, e := r.call(root, changes)
	if got != want || e != wantE {
		r.t.Fatalf("%s: %s is %.6x, %d, not %.6x, %d", promise, tell(changes), got, e, want, wantE)
	}
	if !slices.Equal(r.src.asked, r.model.asked) {
		r.t.Fatalf("%s, 12.4: %s asks for %.3x, not for %.3x", promise, tell(changes), r.src.asked, r.model.asked)
	}
	r.same(promise)
	return got, e
}

// same holds what is staged against the model: 12.2 and 12.5.
func (r *rig) same(promise string) {
	r.t.Helper()
	if r.stage.Len() != len(r.model.staged) {
		r.t.Fatalf("%s, 12.5, 12.7: %d are staged, not %d", promise, r.stage.Len(), len(r.model.staged))
	}
	r.src.asked = nil
	for h, b := range r.model.staged {
		if got, e := r.stage.Node(h); string(got) != b || e != api.OK {
			r.t.Fatalf("%s, 12.2, 12.5: under %.3x stands %x, %d, not %x", promise, h, got, e, b)
		}
	}
	if len(r.src.asked) != 0 {
		r.t.Fatalf("%s, 12.2, 12.5: the source is asked for what is staged", promise)
	}
}

// done does changes that should go well, with the source asked so often and so many nodes more staged, and tells the root.
func (r *rig) done(promise string, root api.Hash, asked, more int, changes ...api.Change) api.Hash {
	r.t.Helper()
	was := r.stage.Len()
	got, e := r.do(promise, root, changes...)
	if e != api.OK || len(r.model.asked) != asked || r.stage.Len()-was != more {
		r.t.Errorf("%s: %s: %d, the source asked %d times, %d more staged, not %d times and %d", promise, tell(changes), e, len(r.model.asked), r.stage.Len()-was, asked, more)
	}
	return got
}

// refused does changes that should end in an error, with the source asked so often.
func (r *rig) refused(promise string, root api.Hash, want api.Errno, asked int, changes ...api.Change) {
	r.t.Helper()
	if got, e := r.do(promise, root, changes...); e != want || got != (api.Hash{}) || len(r.model.asked) != asked {
		r.t.Errorf("%s: %s is %.6x, %d, with the source asked %d times, not error %d with %d", promise, tell(changes), got, e, len(r.model.asked), want, asked)
	}
}

// reach asks what a root leads to, and holds it against the model.
func (r *rig) reach(promise string, root api.Hash) []api.Blob {
	r.t.Helper()
	r.src.asked = nil
	l, e := r.stage.Reach(root)
	if e != api.OK || len(r.src.asked) != 0 {
		r.t.Fatalf("%s, 12.7: Reach: error %d, the source asked for %.3x", promise, e, r.src.asked)
	}
	var got []api.Hash
	for _, b := range l {
		got = append(got, b.Key)
		if string(b.Data) != r.model.staged[b.Key] {
			r.t.Fatalf("%s, 12.7: Reach tells %x under %.3x, not %x", promise, b.Data, b.Key, r.model.staged[b.Key])
		}
	}
	if want := r.model.reach(root); !slices.Equal(got, want) {
		r.t.Fatalf("%s, 12.7: Reach tells %.3x, not %.3x", promise, got, want)
	}
	return l
}

// holds asks for all keys of a map and some others over the stage, and holds what they have against the map.
func (r *rig) holds(promise string, root api.Hash, entries map[string]string, others ...string) {
	r.t.Helper()
	holds(r.t, promise, r.stage, r.book, root, entries, append(others, slices.Collect(maps.Keys(entries))...)...)
}

// holds asks for keys, and holds what they have against a map.
func holds(t *testing.T, promise string, src api.Source, book *digest.Book, root api.Hash, entries map[string]string, keys ...string) {
	t.Helper()
	for _, key := range keys {
		value, there := entries[key]
		if v, found, e := find.Get(src, book, root, []byte(key)); string(v) != value || found != there || e != api.OK {
			t.Fatalf("%s: %x has %.20q, %v, %d, not %.20q, %v", promise, key, v, found, e, value, there)
		}
	}
}

// tell tells changes in short.
func tell(changes []api.Change) string {
	var out []string
	for _, c := range changes {
		if c.Gone {
			out = append(out, fmt.Sprintf("gone %x %x", c.Key, c.Value))
		} else {
			out = append(out, fmt.Sprintf("put %x %.12q (%d bytes)", c.Key, c.Value, len(c.Value)))
		}
	}
	return "[" + strings.Join(out, ", ") + "]"
}
