package cursor_test

import (
	"fmt"
	"slices"
	"strings"
	"testing"

	"cairn/api"
	"cairn/cursor"
	"cairn/digest"
)

// shelf is a source that tells what was laid on it, and can be made to tell something else. It has one memory for all
// that it tells, with marks in its spare room: so whoever keeps that memory loses what stood there.
type shelf struct {
	blobs   map[api.Hash]string
	errs    map[api.Hash]api.Errno
	asked   []api.Hash
	memory  []byte
	was     string // the memory, spare room too, as it was told
	changed bool
}

func newShelf() *shelf {
	return &shelf{blobs: map[api.Hash]string{}, errs: map[api.Hash]api.Errno{}}
}

// look tells whether what was told last is still as it was.
func (s *shelf) look() bool {
	s.changed = s.changed || string(s.memory[:cap(s.memory)]) != s.was
	return !s.changed
}

func (s *shelf) Node(h api.Hash) ([]byte, api.Errno) {
	s.look()
	fill(s.memory, 0xee)
	s.asked = append(s.asked, h)
	b, e := s.tells(h)
	s.memory = append(append(s.memory[:0], b...), 7, 201, 0, 32, 255, 16, 9, 204)[:len(b)]
	s.was = string(s.memory[:cap(s.memory)])
	return s.memory, e
}

func (s *shelf) tells(h api.Hash) (string, api.Errno) {
	b, there := s.blobs[h]
	e := s.errs[h]
	if !there && e == api.OK {
		e = api.ErrAbsent
	}
	return b, e
}

// fill writes one byte all over bytes and their spare room.
func fill(b []byte, x byte) {
	b = b[:cap(b)]
	for i := range b {
		b[i] = x
	}
}

// roomy tells a copy of bytes whose spare room is filled with marks.
func roomy(s string) []byte {
	return append([]byte(s), 7, 201, 0, 32, 255, 16, 9, 204)[:len(s)]
}

// rig is a book with a shelf of nodes, and a cursor over it with the place where it should stand.
type rig struct {
	t      *testing.T
	bits   int
	book   *digest.Book
	src    *shelf
	root   api.Hash
	cursor *cursor.Cursor
	stands bool
	here   pair
}

func newRig(t *testing.T, bits int) *rig {
	t.Helper()
	return &rig{t: t, bits: bits, book: newBook(t, bits), src: newShelf()}
}

func newBook(t *testing.T, bits int) *digest.Book {
	t.Helper()
	book, e := digest.New(bits, 256, make([]byte, 32))
	if e != api.OK {
		t.Fatalf("a book of %d bits: %d", bits, e)
	}
	return book
}

func (r *rig) empty() api.Hash { return hashOf(r.bits, "\x80") }

// lay lays an encoding on the shelf, and tells its hash.
func (r *rig) lay(encoding string) api.Hash {
	h := hashOf(r.bits, encoding)
	r.src.blobs[h] = encoding
	return h
}

// byHash lays an encoding on the shelf, and tells the item by which it stands in another node, however short it is.
func (r *rig) byHash(encoding string) string {
	h := r.lay(encoding)
	return item(string(h[:]))
}

// ref tells how an encoding stands in another node; one that stands there by its hash is laid on the shelf.
func (r *rig) ref(encoding string) string {
	if len(encoding) < 32 {
		return encoding
	}
	return r.byHash(encoding)
}

// trie lays the trie of a map, whose keys are told in digits here, and tells its root node's encoding (chapter 14).
func (r *rig) trie(entries map[string]string) string {
	var keys []string
	for k := range entries {
		keys = append(keys, k)
	}
	slices.Sort(keys)
	first, last := keys[0], keys[len(keys)-1]
	if len(keys) == 1 {
		return leaf(first, entries[first])
	}
	common := 0
	for common < min(len(first), len(last)) && first[common] == last[common] {
		common++
	}
	if common > 0 {
		return ext(first[:common], r.ref(r.trie(behind(entries, first[:common]))))
	}
	var kids []kid
	for i := range 16 {
		if part := behind(entries, fmt.Sprintf("%x", i)); len(part) > 0 {
			kids = append(kids, kid{i, r.ref(r.trie(part))})
		}
	}
	return branch(entries[""], kids...)
}

// behind tells the entries whose keys begin so, with that taken off.
func behind(entries map[string]string, path string) map[string]string {
	out := map[string]string{}
	for k, v := range entries {
		if rest, begins := strings.CutPrefix(k, path); begins {
			out[rest] = v
		}
	}
	return out
}

// plant lays the trie of a map on the shelf, and tells its root.
func (r *rig) plant(entries map[string]string) api.Hash {
	if len(entries) == 0 {
		return r.empty()
	}
	inDigits := map[string]string{}
	for k, v := range entries {
		inDigits[fmt.Sprintf("%x", k)] = v
	}
	return r.lay(r.trie(inDigits))
}

// pairs tells entries as texts.
func pairs(l []api.Entry) []pair {
	var out []pair
	for _, x := range l {
		out = append(out, pair{string(x.Key), string(x.Value)})
	}
	return out
}

// call scans, with what is handed in looked at behind it.
func (r *rig) call(root api.Hash, b bounds, limit int) ([]pair, bool, api.Errno) {
	r.t.Helper()
	low, high := roomy(b.from), roomy(b.to)
	lowWas, highWas := string(low[:cap(low)]), string(high[:cap(high)])
	l, more, e := cursor.Scan(r.src, r.book, root, api.Bounds{From: low, To: high, Open: b.open}, limit)
	if string(low[:cap(low)]) != lowWas || string(high[:cap(high)]) != highWas || !r.src.look() {
		r.t.Errorf("R3: Scan has changed what it was handed or told")
	}
	return pairs(l), more, e
}

// scan scans, and holds all that is to be seen against the model.
func (r *rig) scan(promise string, root api.Hash, b bounds, limit int) ([]pair, bool, api.Errno) {
	r.t.Helper()
	want, wantMore, asked, wantE := scan(r.bits, r.src, root, b, limit)
	r.src.asked = nil
	got, more, e := r.call(root, b, limit)
	if !slices.Equal(got, want) || more != wantMore || e != wantE {
		r.t.Fatalf("%s, 13.4: %v, limit %d: %.60q, %v, %d, not %.60q, %v, %d", promise, b, limit, got, more, e, want, wantMore, wantE)
	}
	if !slices.Equal(r.src.asked, asked) {
		r.t.Fatalf("%s, 13.4, 13.7: %v, limit %d: asked for %.3x, not for %.3x", promise, b, limit, r.src.asked, asked)
	}
	return got, more, e
}

// tells scans, and looks that just these entries are told, with so many nodes read.
func (r *rig) tells(promise string, root api.Hash, b bounds, limit, read int, more bool, keys ...string) {
	r.t.Helper()
	got, gotMore, e := r.scan(promise, root, b, limit)
	var at []string
	for _, x := range got {
		at = append(at, x.key)
	}
	if !slices.Equal(at, keys) || gotMore != more || e != api.OK || len(r.src.asked) != read {
		r.t.Errorf("%s: %v, limit %d: %x, %v, %d, with %d read, not %x, %v with %d", promise, b, limit, at, gotMore, e, len(r.src.asked), keys, more, read)
	}
}

// refused scans, and looks that it ends in an error, with the source asked so often.
func (r *rig) refused(promise string, root api.Hash, b bounds, limit int, want api.Errno, asked int) {
	r.t.Helper()
	got, more, e := r.scan(promise, root, b, limit)
	if len(got) != 0 || more || e != want || len(r.src.asked) != asked {
		r.t.Errorf("%s: %v, limit %d: %.60q, %v, %d, with %d asked, not error %d with %d", promise, b, limit, got, more, e, len(r.src.asked), want, asked)
	}
}

// stand takes a new cursor over the trie of a root.
func (r *rig) stand(root api.Hash) {
	r.t.Helper()
	r.src.asked = nil
	c, e := cursor.New(r.src, r.book, root)
	if c == nil || e != api.OK || len(r.src.asked) != 0 {
		r.t.Fatalf("13.1: New: %v, %d, with %d read", c, e, len(r.src.asked))
	}
	r.root, r.cursor, r.stands, r.here = root, c, false, pair{}
	r.look("13.1: New")
}

// look holds the entry at which the cursor stands against the one at which it should; whoever writes into what it tells changes nothing.
func (r *rig) look(promise string) {
	r.t.Helper()
	asked := len(r.src.asked)
	for range 2 {
		x, e := r.cursor.Entry()
		want := api.ErrEnd
		if r.stands {
			want = api.OK
		}
		if got := (pair{string(x.Key), string(x.Value)}); got != r.here || e != want {
			r.t.Fatalf("%s, 13.3: it stands at %x (%.20q), %d, not at %x (%.20q), %d", promise, got.key, got.value, e, r.here.key, r.here.value, want)
		}
		fill(x.Key, 0x5a)
		fill(x.Value, 0x5a)
	}
	if len(r.src.asked) != asked {
		r.t.Fatalf("%s, 13.3: Entry reads %d nodes", promise, len(r.src.asked)-asked)
	}
}

// goes holds a call that goes somewhere against the walk that it should go.
func (r *rig) goes(promise string, call func() api.Errno, b bounds, back bool) api.Errno {
	r.t.Helper()
	want := walk(r.bits, r.src, r.root, b, back, 1)
	return r.went(promise, call, want)
}

// went holds a call that goes somewhere against a course.
func (r *rig) went(promise string, call func() api.Errno, want course) api.Errno {
	r.t.Helper()
	switch {
	case want.stopped:
		r.stands, r.here = true, want.met[0]
	case want.e == api.OK:
		want.e = api.ErrEnd
	}
	r.src.asked = nil
	e := call()
	if e != want.e {
		r.t.Fatalf("%s, 13.2: %d, not %d", promise, e, want.e)
	}
	if !slices.Equal(r.src.asked, want.asked) {
		r.t.Fatalf("%s, 13.2: asked for %.3x, not for %.3x", promise, r.src.asked, want.asked)
	}
	if !r.src.look() {
		r.t.Fatalf("%s, R3: what the source told is changed", promise)
	}
	r.look(promise)
	return e
}

func (r *rig) seek(promise, key string) api.Errno {
	r.t.Helper()
	handed := roomy(key)
	was := string(handed[:cap(handed)])
	call := func() api.Errno { return r.cursor.Seek(handed) }
	defer func() {
		if string(handed[:cap(handed)]) != was {
			r.t.Errorf("R3: Seek has changed what it was handed")
		}
		fill(handed, 0x66) // whoever keeps it loses it
		r.look(promise)
	}()
	if len(key) > 32 {
		return r.went(promise, call, course{e: 2})
	}
	return r.goes(promise, call, from(key), false)
}

func (r *rig) last(promise string) api.Errno {
	r.t.Helper()
	return r.goes(promise, r.cursor.Last, from(""), true)
}

func (r *rig) next(promise string) api.Errno {
	r.t.Helper()
	if !r.stands {
		return r.went(promise, r.cursor.Next, course{})
	}
	return r.goes(promise, r.cursor.Next, from(r.here.key+"\x00"), false)
}

func (r *rig) prev(promise string) api.Errno {
	r.t.Helper()
	if !r.stands {
		return r.went(promise, r.cursor.Prev, course{})
	}
	return r.goes(promise, r.cursor.Prev, within("", r.here.key), true)
}
