package proof_test

import (
	"bytes"
	"fmt"
	"slices"
	"strconv"
	"strings"
	"testing"

	"cairn/api"
	"cairn/digest"
	"cairn/find"
	"cairn/node"
	"cairn/proof"
)

// fill writes one byte all over bytes and their spare room.
func fill(b []byte, x byte) {
	b = b[:cap(b)]
	for i := range b {
		b[i] = x
	}
}

// roomy tells a copy of bytes whose spare room is filled with marks.
func roomy(s string) []byte {
	return append([]byte(s), 7, 201, 0, 32, 255, 16, 9, 204)[:len(s)]
}

// handed is a list of strings that is handed in: roomy copies in a roomy list.
type handed struct {
	l   [][]byte
	was string
}

func handIn(l []string) *handed {
	h := &handed{}
	for _, s := range l {
		h.l = append(h.l, roomy(s))
	}
	h.l = append(h.l, roomy("spare"), roomy(""), roomy("room"))[:len(l)]
	h.was = h.tell()
	return h
}

// tell tells all that was handed in, spare room too.
func (h *handed) tell() string {
	var out strings.Builder
	for _, b := range h.l[:cap(h.l)] {
		out.Write(b[:cap(b)])
		out.WriteString(strconv.Itoa(len(b)) + " of " + strconv.Itoa(cap(b)))
	}
	return out.String()
}

// takeBack looks whether what was handed in is as it was, and spoils it: whoever has kept it loses it.
func (h *handed) takeBack(t *testing.T) {
	t.Helper()
	if h.tell() != h.was {
		t.Errorf("R3: what was handed in is changed")
	}
	for _, b := range h.l[:cap(h.l)] {
		fill(b, 0x66)
	}
	clear(h.l[:cap(h.l)])
}

func told(l [][]byte) []string {
	var out []string
	for _, b := range l {
		out = append(out, string(b))
	}
	return out
}

// pack asks Pack.
func pack(t *testing.T, l []string) (string, api.Errno) {
	t.Helper()
	h := handIn(l)
	b, e := proof.Pack(h.l)
	h.takeBack(t)
	return string(b), e
}

// unpack asks Unpack.
func unpack(t *testing.T, b string) ([]string, api.Errno) {
	t.Helper()
	in := roomy(b)
	was := bytes.Clone(in[:cap(in)])
	l, e := proof.Unpack(in)
	if !bytes.Equal(in[:cap(in)], was) {
		t.Errorf("R3: Unpack has changed what it was handed")
	}
	fill(in, 0x66)
	return told(l), e
}

// packs asks Pack for a list that it takes, and Unpack for the bytes.
func packs(t *testing.T, l ...string) string {
	t.Helper()
	b, e := pack(t, l)
	if e != api.OK || b != listOf(l...) {
		t.Fatalf("15.1: Pack of %d strings is %.40x (%d bytes), %d, not %.40x", len(l), b, len(b), e, listOf(l...))
	}
	back, e := unpack(t, b)
	if e != api.OK || !slices.Equal(back, l) {
		t.Fatalf("15.2, 15.4: Unpack of Pack of %d strings is %d strings, %d", len(l), len(back), e)
	}
	return b
}

// packsNot asks Pack for a list that it does not take, and Unpack for the form that the list has all the same.
func packsNot(t *testing.T, what string, l ...string) {
	t.Helper()
	if b, e := pack(t, l); b != "" || e != api.ErrInput {
		t.Errorf("15.1: Pack of %s: %.20x (%d bytes), %d", what, b, len(b), e)
	}
	if form := listOf(l...); len(form) < 1<<24 {
		isNone(t, what, form)
	}
}

// isNone asks Unpack for bytes that are no proof.
func isNone(t *testing.T, what, b string) {
	t.Helper()
	if l, e := unpack(t, b); len(l) != 0 || e != api.ErrProof {
		t.Errorf("15.2: %s: Unpack of %.40x (%d bytes) is %d strings, %d", what, b, len(b), len(l), e)
	}
}

// judges asks Unpack for any bytes, and holds it against the model; it tells whether they are a proof.
func judges(t *testing.T, b string) bool {
	t.Helper()
	want, is := unpacked(b)
	got, e := unpack(t, b)
	switch {
	case !is && (len(got) != 0 || e != api.ErrProof):
		t.Fatalf("15.2: %.60x (%d bytes) is no proof, but Unpack answers %d strings, %d", b, len(b), len(got), e)
	case is && (e != api.OK || !slices.Equal(got, want)):
		t.Fatalf("15.2: Unpack of %.60x (%d bytes) is %.60x, %d, not %.60x", b, len(b), got, e, want)
	case is:
		if back, e := pack(t, got); back != b || e != api.OK {
			t.Fatalf("15.4: Pack of Unpack of %.60x (%d bytes) is %.60x, %d", b, len(b), back, e)
		}
	}
	return is
}

// shelf is a source that tells what was laid on it, and can be made to tell something else. It has one memory for all
// that it tells, with marks in its spare room: so whoever keeps that memory loses what stood there.
type shelf struct {
	blobs   map[api.Hash]string
	errs    map[api.Hash]api.Errno
	asked   []api.Hash
	memory  []byte
	was     string // the memory, spare room too, as it was told
	changed bool
}

// look tells whether what was told last is still as it was.
func (s *shelf) look() bool {
	s.changed = s.changed || string(s.memory[:cap(s.memory)]) != s.was
	return !s.changed
}

func (s *shelf) Node(h api.Hash) ([]byte, api.Errno) {
	s.look()
	fill(s.memory, 0xee)
	s.asked = append(s.asked, h)
	b, there := s.blobs[h]
	e := s.errs[h]
	if !there && e == api.OK {
		e = api.ErrAbsent
	}
	s.memory = append(append(s.memory[:0], b...), 7, 201, 0, 32, 255, 16, 9, 204)[:len(b)]
	s.was = string(s.memory[:cap(s.memory)])
	return s.memory, e
}

// rig is a book with a shelf of nodes.
type rig struct {
	t    *testing.T
	bits int
	book *digest.Book
	src  *shelf
}

func newRig(t *testing.T, bits int) *rig {
	t.Helper()
	return &rig{t: t, bits: bits, book: newBook(t, bits), src: &shelf{blobs: map[api.Hash]string{}, errs: map[api.Hash]api.Errno{}}}
}

func newBook(t *testing.T, bits int) *digest.Book {
	t.Helper()
	book, e := digest.New(bits, 256, make([]byte, 32))
	if e != api.OK {
		t.Fatalf("a book of %d bits: %d", bits, e)
	}
	return book
}

// lay lays an encoding on the shelf, and tells its hash.
func (r *rig) lay(encoding string) api.Hash {
	h := hashOf(r.bits, encoding)
	r.src.blobs[h] = encoding
	return h
}

// byHash lays an encoding on the shelf, and tells the item by which it stands in another node, however short it is.
func (r *rig) byHash(encoding string) string {
	h := r.lay(encoding)
	return item(string(h[:]))
}

// plant lays the trie of a map on the shelf.
func (r *rig) plant(entries map[string]string) *trie {
	m := plant(r.bits, entries)
	for _, s := range m.spots {
		r.lay(s.encoding)
	}
	return m
}

// answer is all that is to be seen of a proof's making.
type answer struct {
	proof string
	asked []api.Hash
	e     api.Errno
}

func (a answer) String() string {
	return fmt.Sprintf("{%.40x (%d bytes), asked for %.3x, error %d}", a.proof, len(a.proof), a.asked, a.e)
}

// prove asks Prove.
func (r *rig) prove(root api.Hash, key string) answer {
	r.t.Helper()
	in := roomy(key)
	was := bytes.Clone(in[:cap(in)])
	r.src.asked = nil
	b, e := proof.Prove(r.src, r.book, root, in)
	if !bytes.Equal(in[:cap(in)], was) || !r.src.look() {
		r.t.Errorf("R3: Prove has changed what it was handed or told")
	}
	out := answer{string(b), r.src.asked, e}
	fill(in, 0x66)
	fill(r.src.memory, 0x66)
	r.src.was = string(r.src.memory[:cap(r.src.memory)])
	if string(b) != out.proof {
		r.t.Errorf("R3: what Prove answers shares memory with its key or with what the source told")
	}
	return out
}

// ask asks Prove for a key, and holds the answer against find's; it tells the answer, and the strings of its proof.
func (r *rig) ask(promise string, root api.Hash, key string) (answer, []string) {
	r.t.Helper()
	r.src.asked = nil
	_, _, getE := find.Get(r.src, r.book, root, []byte(key))
	read := r.src.asked
	trail, e := find.Trail(r.src, r.book, root, []byte(key))
	got := r.prove(root, key)
	if again := r.prove(root, key); again.proof != got.proof || !slices.Equal(again.asked, got.asked) || again.e != got.e {
		r.t.Fatalf("%s, R5: Prove of %x answers %v, then %v", promise, key, got, again)
	}
	if got.e != e || got.e != getE {
		r.t.Fatalf("%s, 15.5: Prove of %x answers %v, but find %d", promise, key, got, e)
	}
	if !slices.Equal(got.asked, read) {
		r.t.Fatalf("%s, 15.5: Prove of %x has read %.3x, but Get %.3x", promise, key, got.asked, read)
	}
	if e != api.OK {
		if got.proof != "" {
			r.t.Fatalf("%s, R2: Prove of %x is %v beside an error", promise, key, got)
		}
		return got, nil
	}
	if got.proof != listOf(told(trail)...) || len(got.proof) > 131072 {
		r.t.Fatalf("%s, 15.3: Prove of %x is %v, but the trail is %.40x", promise, key, got, trail)
	}
	l, e := unpack(r.t, got.proof)
	if e != api.OK || !slices.Equal(l, told(trail)) {
		r.t.Fatalf("%s, 15.4: the proof of %x is unpacked to %d strings, %d", promise, key, len(l), e)
	}
	r.stand(promise, root, l)
	return got, l
}

// stand looks whether each string of a proof stands by its hash in the one ahead of it (15.6).
func (r *rig) stand(promise string, root api.Hash, l []string) {
	r.t.Helper()
	for i, s := range l {
		h := hashOf(r.bits, s)
		if i == 0 {
			if h != root {
				r.t.Fatalf("%s, 15.6: the first string's hash is %x, not the root %x", promise, h, root)
			}
			continue
		}
		in, e := node.Hashes([]byte(l[i-1]))
		if e != api.OK || !slices.Contains(in, h) || !strings.Contains(l[i-1], "\xa0"+string(h[:])) || len(s) < 32 {
			r.t.Fatalf("%s, 15.6: string %d does not stand by its hash in the one ahead of it", promise, i)
		}
	}
}

// proves asks Prove for a key over a trie, and holds the answer against the nodes at whose places the key comes by.
func (r *rig) proves(promise string, m *trie, key string) []string {
	r.t.Helper()
	got, l := r.ask(promise, m.root, key)
	if want := m.trail(key); got.e != api.OK || got.proof != listOf(want...) || !slices.Equal(l, want) {
		r.t.Fatalf("%s, 15.3: Prove of %x is %v, not %.40x", promise, key, got, want)
	}
	return l
}

// refused asks Prove for a key whose way should end in an error, with the source asked so often.
func (r *rig) refused(promise string, root api.Hash, key string, e api.Errno, asked int) {
	r.t.Helper()
	if got, _ := r.ask(promise, root, key); got.e != e || got.proof != "" || len(got.asked) != asked {
		r.t.Errorf("%s: Prove of %x is %v, not error %d with the source asked %d times", promise, key, got, e, asked)
	}
}
