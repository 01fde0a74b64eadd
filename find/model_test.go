package find_test

import (
	"bytes"
	"crypto/sha256"
	"fmt"
	"slices"
	"strings"
	"testing"

	"cairn/api"
	"cairn/digest"
	"cairn/find"
	"cairn/node"
)

// Nodes are written down here by themselves: an item is a text of its form's bytes, a path a text of hexadecimal digits.

// item is the form of a string of bytes; no length here needs more than two bytes.
func item(s string) string {
	if len(s) == 1 && s[0] < 128 {
		return s
	}
	return head(128, len(s)) + s
}

// list is the form of a list of items.
func list(items ...string) string {
	all := strings.Join(items, "")
	return head(192, len(all)) + all
}

func head(base, size int) string {
	switch {
	case size < 56:
		return string([]byte{byte(base + size)})
	case size < 256:
		return string([]byte{byte(base + 56), byte(size)})
	}
	return string([]byte{byte(base + 57), byte(size / 256), byte(size % 256)})
}

// packed is a path in its bytes.
func packed(path string, flag int) string {
	if len(path)%2 == 1 {
		path = fmt.Sprintf("%x", flag+1) + path
	} else {
		path = fmt.Sprintf("%x0", flag) + path
	}
	return unhex(path)
}

func unhex(text string) string {
	var b []byte
	if _, err := fmt.Sscanf(text, "%x", &b); err != nil && text != "" {
		panic(text)
	}
	return string(b)
}

func leaf(path, value string) string { return list(item(packed(path, 2)), item(value)) }
func ext(path, ref string) string    { return list(item(packed(path, 0)), ref) }

// kid is how a node stands in a branch, and where.
type kid struct {
	way int
	ref string
}

func branch(value string, kids ...kid) string {
	items := make([]string, 17)
	for i := range items {
		items[i] = item("")
	}
	for _, k := range kids {
		items[k.way] = k.ref
	}
	items[16] = item(value)
	return list(items...)
}

// long is a value with which no leaf stands whole.
const long = "a value that is longer than thirty-one bytes"

// hashOf is the published hash of a string, of which the first bits count.
func hashOf(bits int, s string) api.Hash {
	h := api.Hash(sha256.Sum256([]byte(s)))
	for i := bits; i < 256; i++ {
		h[i/8] &^= 128 >> (i % 8)
	}
	return h
}

// shelf is a source that tells what was laid on it, and can be made to tell something else. It has one memory for all
// that it tells, with marks in its spare room: so whoever keeps that memory loses what stood there.
type shelf struct {
	blobs   map[api.Hash]string
	errs    map[api.Hash]api.Errno
	asked   []api.Hash
	memory  []byte
	was     string // the memory, spare room too, as it was told
	changed bool
}

// look tells whether what was told last is still as it was.
func (s *shelf) look() bool {
	s.changed = s.changed || string(s.memory[:cap(s.memory)]) != s.was
	return !s.changed
}

func (s *shelf) Node(h api.Hash) ([]byte, api.Errno) {
	s.look()
	fill(s.memory, 0xee)
	s.asked = append(s.asked, h)
	b, e := s.tells(h)
	s.memory = append(append(s.memory[:0], b...), 7, 201, 0, 32, 255, 16, 9, 204)[:len(b)]
	s.was = string(s.memory[:cap(s.memory)])
	return s.memory, e
}

func (s *shelf) tells(h api.Hash) (string, api.Errno) {
	b, there := s.blobs[h]
	e := s.errs[h]
	if !there && e == api.OK {
		e = api.ErrNode
	}
	return b, e
}

// fill writes one byte all over bytes and their spare room.
func fill(b []byte, x byte) {
	b = b[:cap(b)]
	for i := range b {
		b[i] = x
	}
}

// answer is all that is to be seen of a key's way.
type answer struct {
	value string
	found bool
	trail []string
	asked []api.Hash
	e     api.Errno
}

func (a answer) String() string {
	return fmt.Sprintf("{%.20q (%d bytes) %v, a trail of %d, asked for %.3x, error %d}", a.value, len(a.value), a.found, len(a.trail), a.asked, a.e)
}

func (a answer) same(b answer) bool {
	return a.value == b.value && a.found == b.found && a.e == b.e && slices.Equal(a.trail, b.trail) && slices.Equal(a.asked, b.asked)
}

// walk is the model: P11.1 written down a second time, over texts of digits.
type walk struct {
	bits  int
	src   *shelf
	trail []string
	asked []api.Hash
}

func (w *walk) read(h api.Hash) (string, api.Node, api.Errno) {
	w.asked = append(w.asked, h)
	b, e := w.src.tells(h)
	if e != 0 {
		return "", api.Node{}, e
	}
	n, e := node.Decode([]byte(b))
	if hashOf(w.bits, b) != h || e != 0 {
		return "", api.Node{}, 5
	}
	w.trail = append(w.trail, b)
	return b, n, 0
}

// on goes on to a ref, from an extension or not.
func (w *walk) on(r api.Ref, fromExtension bool, taken int, rest string) (string, bool, api.Errno) {
	var n api.Node
	var e api.Errno
	switch r.Kind {
	case 0:
		return "", false, 0
	case 1:
		var b string
		b, n, e = w.read(r.Hash)
		if e == 0 && len(b) < 32 {
			e = 5
		}
	case 2:
		n, e = node.Decode(r.Node)
	}
	if e == 0 && fromExtension && n.Kind != 3 {
		e = 5
	}
	if e != 0 {
		return "", false, e
	}
	return w.at(n, taken, rest)
}

// at is what a node that is met does.
func (w *walk) at(n api.Node, taken int, rest string) (string, bool, api.Errno) {
	path := ""
	for _, x := range n.Path {
		path += fmt.Sprintf("%x", x)
	}
	switch n.Kind {
	case 1:
		if taken+len(path) > 64 || (taken+len(path))%2 == 1 {
			return "", false, 5
		}
		if path == rest {
			return string(n.Value), true, 0
		}
	case 2:
		if taken+len(path) > 64 {
			return "", false, 5
		}
		if behind, begins := strings.CutPrefix(rest, path); begins {
			return w.on(n.Next, true, taken+len(path), behind)
		}
	case 3:
		if n.Full && taken%2 == 1 {
			return "", false, 5
		}
		if rest == "" {
			return string(n.Value), n.Full, 0
		}
		return w.on(n.Kids[strings.Index("0123456789abcdef", rest[:1])], false, taken+1, rest[1:])
	}
	return "", false, 0
}

// want is what a key's way should be.
func want(bits int, src *shelf, root api.Hash, key string) answer {
	w := &walk{bits: bits, src: src}
	if len(key) > 32 {
		return answer{e: 2}
	}
	if root == hashOf(bits, "\x80") {
		return answer{}
	}
	_, n, e := w.read(root)
	if e != 0 {
		return answer{e: e, asked: w.asked}
	}
	value, found, e := w.at(n, 0, fmt.Sprintf("%x", key))
	if e != 0 {
		return answer{e: e, asked: w.asked}
	}
	return answer{value: value, found: found, trail: w.trail, asked: w.asked}
}

// rig is a book with a shelf of nodes.
type rig struct {
	t    *testing.T
	bits int
	book *digest.Book
	src  *shelf
}

func newRig(t *testing.T, bits int) *rig {
	t.Helper()
	return &rig{t: t, bits: bits, book: newBook(t, bits), src: newShelf()}
}

func newShelf() *shelf {
	return &shelf{blobs: map[api.Hash]string{}, errs: map[api.Hash]api.Errno{}}
}

func newBook(t *testing.T, bits int) *digest.Book {
	t.Helper()
	book, e := digest.New(bits, 256, make([]byte, 32))
	if e != api.OK {
		t.Fatalf("a book of %d bits: %d", bits, e)
	}
	return book
}

// lay lays an encoding on the shelf, and tells its hash.
func (r *rig) lay(encoding string) api.Hash {
	h := hashOf(r.bits, encoding)
	r.src.blobs[h] = encoding
	return h
}

// byHash lays an encoding on the shelf, and tells the item by which it stands in another node, however short it is.
func (r *rig) byHash(encoding string) string {
	h := r.lay(encoding)
	return item(string(h[:]))
}

// ref tells how an encoding stands in another node; one that stands there by its hash is laid on the shelf.
func (r *rig) ref(encoding string) string {
	if len(encoding) < 32 {
		return encoding
	}
	return r.byHash(encoding)
}

// trie lays the trie of a map, whose keys are told in digits here, and tells its root node's encoding (chapter 14).
func (r *rig) trie(entries map[string]string) string {
	var keys []string
	for k := range entries {
		keys = append(keys, k)
	}
	slices.Sort(keys)
	first, last := keys[0], keys[len(keys)-1]
	if len(keys) == 1 {
		return leaf(first, entries[first])
	}
	common := 0
	for common < min(len(first), len(last)) && first[common] == last[common] {
		common++
	}
	if common > 0 {
		return ext(first[:common], r.ref(r.trie(behind(entries, first[:common]))))
	}
	var kids []kid
	for i := range 16 {
		if part := behind(entries, fmt.Sprintf("%x", i)); len(part) > 0 {
			kids = append(kids, kid{i, r.ref(r.trie(part))})
		}
	}
	return branch(entries[""], kids...)
}

// behind tells the entries whose keys begin so, with that taken off.
func behind(entries map[string]string, path string) map[string]string {
	out := map[string]string{}
	for k, v := range entries {
		if rest, begins := strings.CutPrefix(k, path); begins {
			out[rest] = v
		}
	}
	return out
}

// plant lays the trie of a map on the shelf, and tells its root.
func (r *rig) plant(entries map[string]string) api.Hash {
	if len(entries) == 0 {
		return hashOf(r.bits, "\x80")
	}
	inDigits := map[string]string{}
	for k, v := range entries {
		inDigits[fmt.Sprintf("%x", k)] = v
	}
	return r.lay(r.trie(inDigits))
}

// roomy tells a copy of bytes whose spare room is filled with marks.
func roomy(s string) []byte {
	return append([]byte(s), 7, 201, 0, 32, 255, 16, 9, 204)[:len(s)]
}

// get asks for a key by Get; of its own handing in it looks that nothing has changed.
func (r *rig) get(root api.Hash, key string) answer {
	r.t.Helper()
	handed := roomy(key)
	was := bytes.Clone(handed[:cap(handed)])
	r.src.asked = nil
	v, found, e := find.Get(r.src, r.book, root, handed)
	if !bytes.Equal(handed[:cap(handed)], was) || !r.src.look() {
		r.t.Errorf("R3: Get has changed what it was handed or told")
	}
	return answer{value: string(v), found: found, e: e, asked: r.src.asked}
}

// getTrail asks for a key by Trail, likewise.
func (r *rig) getTrail(root api.Hash, key string) answer {
	r.t.Helper()
	handed := roomy(key)
	was := bytes.Clone(handed[:cap(handed)])
	r.src.asked = nil
	l, e := find.Trail(r.src, r.book, root, handed)
	if !bytes.Equal(handed[:cap(handed)], was) || !r.src.look() {
		r.t.Errorf("R3: Trail has changed what it was handed or told")
	}
	out := answer{e: e, asked: r.src.asked}
	for _, b := range l {
		out.trail = append(out.trail, string(b))
	}
	return out
}

// ask asks for a key by both calls, each a second time behind the other (nothing is kept from call to call), and holds what is to be seen against the model.
func (r *rig) ask(promise string, root api.Hash, key string) answer {
	r.t.Helper()
	w := want(r.bits, r.src, root, key)
	noTrail, trailAlone := w, answer{trail: w.trail, asked: w.asked, e: w.e}
	noTrail.trail = nil
	for range 2 {
		if got := r.get(root, key); !got.same(noTrail) {
			r.t.Fatalf("%s, P11.2: Get of %x is %v, not %v", promise, key, got, noTrail)
		}
		if got := r.getTrail(root, key); !got.same(trailAlone) {
			r.t.Fatalf("%s, P11.3: Trail of %x is %v, not %v", promise, key, got, trailAlone)
		}
	}
	return w
}

// found asks for a key that should have a value, with so many nodes read on its way.
func (r *rig) found(promise string, root api.Hash, key, value string, read int) {
	r.t.Helper()
	if a := r.ask(promise, root, key); a.value != value || !a.found || a.e != api.OK || len(a.trail) != read || len(a.asked) != read {
		r.t.Errorf("%s: %x: %v, not found %.20q with %d nodes read", promise, key, a, value, read)
	}
}

// nothing asks for a key that should have nothing, with so many nodes read on its way.
func (r *rig) nothing(promise string, root api.Hash, key string, read int) {
	r.t.Helper()
	if a := r.ask(promise, root, key); a.value != "" || a.found || a.e != api.OK || len(a.trail) != read || len(a.asked) != read {
		r.t.Errorf("%s: %x: %v, not nothing with %d nodes read", promise, key, a, read)
	}
}

// refused asks for a key whose way should end in an error, with the source asked so often.
func (r *rig) refused(promise string, root api.Hash, key string, e api.Errno, asked int) {
	r.t.Helper()
	if a := r.ask(promise, root, key); a.value != "" || a.found || a.e != e || len(a.trail) != 0 || len(a.asked) != asked {
		r.t.Errorf("%s: %x: %v, not error %d with the source asked %d times", promise, key, a, e, asked)
	}
}
