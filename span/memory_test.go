package span_test

import (
	"fmt"
	"slices"
	"sync"
	"testing"

	"cairn/api"
	"cairn/digest"
	"cairn/span"
)

// keeper is a source that tells the memory in which it keeps its nodes.
type keeper map[api.Hash][]byte

func (k keeper) Node(h api.Hash) ([]byte, api.Errno) {
	if b, there := k[h]; there {
		return b, api.OK
	}
	return nil, api.ErrAbsent
}

// shared writes a mark of its own into each list, spare room too, and tells whether one of them has lost its mark. A mark is one
// byte: so it is done twice, and no two lists have the same mark both times.
func shared(all [][]byte) bool {
	for _, marks := range []int{251, 241} {
		for i, b := range all {
			fill(b, byte(i%marks))
		}
		for i, b := range all {
			if !isAll(b, byte(i%marks)) {
				return true
			}
		}
	}
	return false
}

// stock is what the calls are handed, more than once, and a source that tells its own memory.
type stock struct {
	book   *digest.Book
	src    keeper
	root   api.Hash
	bounds []api.Bounds
	proofs [][]byte
}

func newStock(t *testing.T) *stock {
	entries := grove()
	entries["\x22"], entries["\x32"] = long, long // one node at two places
	m := plant(256, entries)
	s := &stock{book: newBook(t, 256), src: keeper{}, root: m.root}
	for _, x := range m.spots {
		s.src[hashOf(256, x.encoding)] = roomy(x.encoding)
	}
	for _, b := range []bounds{from(""), from("\x12"), within("\x12", "\x78"), within("\x77", "\x77\x00"), from("\x79\x99"), within("", "\x01"), within("", ""), within("\x20", "\x40")} {
		s.bounds = append(s.bounds, boundsOf(b))
		s.proofs = append(s.proofs, roomy(m.proof(b)))
	}
	return s
}

// tell tells all of it, spare room too.
func (s *stock) tell() string {
	out := fmt.Sprintf("%x ", s.src.whole())
	for i, b := range s.bounds {
		out += fmt.Sprintf("%d %x %d %x %v %x ", len(b.From), whole(b.From), len(b.To), whole(b.To), b.Open, whole(s.proofs[i]))
	}
	return out
}

func (k keeper) whole() map[api.Hash]string {
	out := map[api.Hash]string{}
	for h, b := range k {
		out[h] = whole(b)
	}
	return out
}

// spoil writes over all of it.
func (s *stock) spoil() {
	for _, b := range s.src {
		fill(b, 0x66)
	}
	for i, b := range s.bounds {
		fill(b.From, 0x66)
		fill(b.To, 0x66)
		fill(s.proofs[i], 0x66)
	}
}

// said is what the two calls answer.
type said struct {
	proofs  [][]byte
	entries [][]api.Entry
	errs    []api.Errno
}

func (s *stock) ask() said {
	var out said
	for i, b := range s.bounds {
		p, e := span.Prove(s.src, s.book, s.root, b)
		l, f := span.Verify(s.book, s.root, b, s.proofs[i])
		out.proofs, out.entries, out.errs = append(out.proofs, p), append(out.entries, l), append(out.errs, e, f)
	}
	return out
}

func (s said) tell() string { return fmt.Sprintf("%x %x %d", s.proofs, s.entries, s.errs) }

// lists tells all lists of bytes of answers.
func lists(all ...said) [][]byte {
	var out [][]byte
	for _, s := range all {
		out = append(out, s.proofs...)
		for _, x := range slices.Concat(s.entries...) {
			out = append(out, x.Key, x.Value)
		}
	}
	return out
}

func TestWhatIsHandedOutIsNew(t *testing.T) {
	s := newStock(t)
	was := s.tell()
	first, second := s.ask(), s.ask()
	text := second.tell()
	if first.tell() != text || slices.ContainsFunc(first.errs, func(e api.Errno) bool { return e != api.OK }) {
		t.Errorf("R5: calls that are done again answer otherwise: %d", first.errs)
	}
	for i, p := range first.proofs {
		if string(p) != string(s.proofs[i]) {
			t.Errorf("17.2: proof %d is another one", i)
		}
	}
	for _, l := range first.entries {
		clear(l[:cap(l)])
	}
	if second.tell() != text {
		t.Errorf("R3: two answers are one list")
	}
	first = s.ask()
	if shared(lists(first, second)) {
		t.Errorf("R3: two answers, or two lists of one, share memory")
	}
	if s.tell() != was {
		t.Errorf("R3: what was handed in or told is changed, or shares memory with an answer")
	}
	if s.ask().tell() != text {
		t.Errorf("R3: whoever writes into an answer changes the next one")
	}
	if !s.book.Sound() {
		t.Errorf("R3: the book is not sound")
	}
}

// What stands in an answer stays, whatever becomes of what was handed in and told; nothing that was read is kept.
func TestWhatIsHandedInIsNotKept(t *testing.T) {
	s := newStock(t)
	got := s.ask()
	text := got.tell()
	s.spoil()
	if got.tell() != text {
		t.Errorf("R3: an answer shares memory with what was handed in or told")
	}
	if p, e := span.Prove(s.src, s.book, s.root, api.Bounds{Open: true}); p != nil || e != api.ErrNode {
		t.Errorf("17.2: a node that was read is kept: %d", e)
	}
	if l, e := span.Verify(s.book, s.root, api.Bounds{Open: true}, []byte{0xc0}); l != nil || e != api.ErrProof {
		t.Errorf("17.3: a string that was shown is kept: %d", e)
	}
}

// meddler is a source that writes into all that was handed in, while the call is on its way.
type meddler struct {
	*shelf
	handed [][]byte
}

func (m *meddler) Node(h api.Hash) ([]byte, api.Errno) {
	for _, b := range m.handed {
		fill(b, 0x66)
	}
	return m.shelf.Node(h)
}

func TestBoundsThatAreChangedOnTheWay(t *testing.T) {
	r := newRig(t, 256)
	m := r.plant(grove())
	for _, b := range []bounds{from(""), from("\x12"), within("\x12", "\x78"), within("\x77", "\x77\x00"), from("\x79\x99"), within("", "\x01")} {
		in := boundsOf(b)
		p, e := span.Prove(&meddler{r.src, [][]byte{in.From, in.To}}, r.book, m.root, in)
		if string(p) != m.proof(b) || e != api.OK {
			t.Errorf("R3, R5: %v: %.60x, %d", b, p, e)
		}
	}
}

// One memory as bounds and proof.
func TestArgumentsThatAreOneMemory(t *testing.T) {
	r := newRig(t, 256)
	one := leaf("1234", "\x12\x34")
	memory := roomy(listOf(one) + "\x12\x34")
	b, key := memory[:len(memory)-2], memory[len(memory)-2:]
	was := whole(memory)
	var all [][]byte
	for i, in := range []api.Bounds{{From: key, Open: true}, {From: key[:1], To: key}, {From: key, To: key}, {From: b, Open: true}, {To: b}, {From: key[:0], To: b[:1]}} {
		l, e := span.Verify(r.book, r.hash(one), in, b)
		if want := []int{1, 0, 0, 0, 1, 1}[i]; len(l) != want || e != api.OK {
			t.Errorf("17.3: case %d: %d entries, %d", i, len(l), e)
		}
		for _, x := range l {
			if string(x.Key) != "\x12\x34" || string(x.Value) != "\x12\x34" {
				t.Errorf("17.3: case %d: %x, %x", i, x.Key, x.Value)
			}
			all = append(all, x.Key, x.Value)
		}
	}
	if shared(all) || whole(memory) != was {
		t.Errorf("R3: two answers share memory, or share it with what was handed in")
	}
}

func TestNilAndEmptyAreOne(t *testing.T) {
	r := newRig(t, 256)
	m := r.plant(grove())
	want := m.has(from(""))
	nones := [][]byte{nil, {}, make([]byte, 0, 9)}
	for _, none := range nones {
		for _, other := range nones {
			p, e := span.Prove(r.src, r.book, m.root, api.Bounds{From: none, To: other, Open: true})
			l, f := span.Verify(r.book, m.root, api.Bounds{From: other, To: none, Open: true}, p)
			if e != api.OK || !want.is(verdict{pairs(l), f}) {
				t.Errorf("R4: %d, %d entries, %d", e, len(l), f)
			}
			p, e = span.Prove(r.src, r.book, m.root, api.Bounds{From: none, To: other})
			l, f = span.Verify(r.book, m.root, api.Bounds{From: other, To: none}, p)
			if string(p) != "\xc0" || e != api.OK || len(l) != 0 || f != api.OK {
				t.Errorf("R4: to nothing: %x, %d, %d entries, %d", p, e, len(l), f)
			}
		}
		h := hashOf(256, "")
		if p, e := span.Prove(keeper{h: none}, r.book, h, api.Bounds{Open: true}); p != nil || e != api.ErrNode {
			t.Errorf("R4: a source that tells no byte: %x, %d", p, e)
		}
		for _, root := range []api.Hash{m.root, emptyRoot(256), {}} {
			if l, e := span.Verify(r.book, root, api.Bounds{Open: true}, none); l != nil || e != api.ErrProof {
				t.Errorf("R4: no bytes: %d entries, %d", len(l), e)
			}
		}
	}
}

// All else is zero beside an error, however far the walk has come.
func TestZeroBesideAnError(t *testing.T) {
	r := newRig(t, 256)
	root, nodes, _ := yard(r)
	l := yardStrings(nodes)
	all := api.Bounds{Open: true}
	wrong := [][]string{nil, append(slices.Clone(l), "x"), append(slices.Clone(l), l[5])}
	for at, name := range order {
		wrong = append(wrong, l[:at], instead(l, at, "x"))
		h := r.hash(nodes[name])
		r.src.blobs[h] = "wrong"
		if p, e := span.Prove(r.src, r.book, root, all); p != nil || e != api.ErrNode {
			t.Errorf("R2: %s: %x, %d", name, p, e)
		}
		r.src.blobs[h] = nodes[name]
	}
	for _, w := range wrong {
		if got, e := span.Verify(r.book, root, all, []byte(listOf(w...))); got != nil || e != api.ErrProof {
			t.Errorf("R2: %d entries, %d", len(got), e)
		}
	}
	for _, b := range wrongBounds() {
		p, e := span.Prove(r.src, r.book, root, boundsOf(b))
		got, f := span.Verify(r.book, root, boundsOf(b), []byte(listOf(l...)))
		if p != nil || e != api.ErrInput || got != nil || f != api.ErrInput {
			t.Errorf("R2: %v: %x, %d, %d entries, %d", b, p, e, len(got), f)
		}
	}
	full := newRig(t, 256)
	if p, e := span.Prove(full.src, full.book, full.stack(most+1, leaf("7", long), leaf("7", "behind")).root, all); p != nil || e != api.ErrFull {
		t.Errorf("R2: %d bytes, %d", len(p), e)
	}
}

// What is answered does not hang on the book's past, nor on what was refused.
func TestPastsThatDoNotCount(t *testing.T) {
	s := newStock(t)
	text := s.ask().tell()
	for _, x := range []string{"", "\x80", "anything", long} {
		s.book.Hash([]byte(x))
		s.book.Code([]byte(x))
		s.book.Accept([]byte(x+"?"), api.Hash{})
		span.Prove(s.src, s.book, hashOf(256, x), api.Bounds{Open: true})
		span.Verify(s.book, hashOf(256, x), api.Bounds{Open: true}, s.proofs[0])
	}
	hashed, coded := s.book.Len()
	if s.ask().tell() != text {
		t.Errorf("R5: an answer hangs on what was before")
	}
	if h, c := s.book.Len(); h != hashed || c != coded {
		t.Errorf("R7: the same calls hash or code other strings: %d, %d behind %d, %d", h, c, hashed, coded)
	}
}

// knows tells whether a book has hashed these strings, and coded nothing.
func knows(book *digest.Book, l ...string) bool {
	hashed, coded := book.Len()
	for _, s := range l {
		book.Hash([]byte(s))
	}
	now, _ := book.Len()
	return now == hashed && coded == 0
}

// All strings whose hashes are compared have been hashed by the book, and nothing is coded.
func TestWhatTheBookKnows(t *testing.T) {
	for _, c := range yardCases {
		if c.read == "" {
			continue
		}
		r := newRig(t, 256)
		root, _, _ := yard(r)
		if m := r.callProve(root, c.b); m.e != api.OK || !knows(r.book, append(r.src.told(), "\x80")...) {
			t.Fatalf("R7: of what was read something was not hashed; %d", m.e)
		}
		l := r.src.told()
		r.book = newBook(t, 256)
		if v := r.callVerify(root, c.b, listOf(l...)); v.e != api.OK || !knows(r.book, append(slices.Clone(l), "\x80")...) {
			t.Fatalf("R7: of an accepted proof a string was not hashed; %d", v.e)
		}
		for at := range l {
			r.book = newBook(t, 256)
			r.callVerify(root, c.b, listOf(instead(l, at, "another")...))
			if !knows(r.book, append(slices.Clone(l[:at]), "another", "\x80")...) {
				t.Fatalf("R7: of a refused proof a string that was compared was not hashed")
			}
		}
		r.book = newBook(t, 256)
		r.src.blobs[root] = "other bytes"
		r.callProve(root, c.b)
		if !knows(r.book, "other bytes") {
			t.Fatalf("R7: what the source told was held against a hash that the book has not made")
		}
	}
	r := newRig(t, 256)
	r.callProve(emptyRoot(256), from(""))
	if !knows(r.book, "\x80") {
		t.Errorf("R7: the empty trie's root was not hashed by Prove")
	}
	r.book = newBook(t, 256)
	r.callVerify(emptyRoot(256), from(""), "\xc0")
	if !knows(r.book, "\x80") {
		t.Errorf("R7: the empty trie's root was not hashed by Verify")
	}
}

// Many may ask by one book and one source at the same time, with the same bounds and proofs.
func TestSideBySide(t *testing.T) {
	s := newStock(t)
	was := s.tell()
	text := make([]string, 8)
	var all sync.WaitGroup
	for i := range text {
		all.Go(func() {
			for range 5 {
				text[i] = s.ask().tell()
			}
		})
	}
	all.Wait()
	for i := range text {
		if text[i] != text[0] {
			t.Fatalf("R5: two who ask the same at the same time are told otherwise")
		}
	}
	if s.tell() != was {
		t.Errorf("R3: what was handed in or told is changed")
	}
}
