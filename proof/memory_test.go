package proof_test

import (
	"fmt"
	"slices"
	"strings"
	"sync"
	"testing"

	"cairn/api"
	"cairn/digest"
	"cairn/proof"
)

// grove is a map whose trie has whole nodes and nodes by their hashes.
func grove() map[string]string {
	return map[string]string{"": "e", "\x12": "a", "\x12\x34": long, "\x12\x35": "b", "\x12\x35\x67": long + "!", "\x77": "seven", "\x78": "eight", "\x79\x99": "n", unhex(deep): long, unhex(deep[:62]): "up"}
}

// keeper is a source that tells the memory in which it keeps its nodes.
type keeper map[api.Hash][]byte

func (k keeper) Node(h api.Hash) ([]byte, api.Errno) {
	if b, there := k[h]; there {
		return b, api.OK
	}
	return nil, api.ErrNode
}

// kept makes such a source of a trie's nodes.
func kept(m *trie) keeper {
	k := keeper{}
	for _, s := range m.spots {
		k[hashOf(m.bits, s.encoding)] = roomy(s.encoding)
	}
	return k
}

// tell tells what each memory holds, spare room too.
func (k keeper) tell() string {
	var out []string
	for h, b := range k {
		out = append(out, fmt.Sprintf("%x %x %d", h, b[:cap(b)], len(b)))
	}
	slices.Sort(out)
	return strings.Join(out, "\n")
}

// shared writes a mark of its own into each list, spare room too, and tells whether one of them has lost its mark. A mark is one
// byte: so it is done twice, and no two lists have the same mark both times.
func shared(all [][]byte) bool {
	for _, marks := range []int{251, 241} {
		for i, b := range all {
			fill(b, byte(i%marks))
		}
		for i, b := range all {
			if slices.ContainsFunc(b[:cap(b)], func(x byte) bool { return x != byte(i%marks) }) {
				return true
			}
		}
	}
	return false
}

// stock is what the calls are handed, more than once.
type stock struct {
	src   keeper
	book  *digest.Book
	root  api.Hash
	keys  [][]byte
	lists []*handed
	bytes [][]byte
}

func newStock(t *testing.T) *stock {
	m := plant(256, grove())
	s := &stock{src: kept(m), book: newBook(t, 256), root: m.root}
	for _, key := range nearAll(grove()) {
		s.keys = append(s.keys, roomy(key))
	}
	for _, name := range []string{"none", "a byte", "three", "56 bytes", "like heads", "nodes"} {
		l := someProofs()[name]
		s.lists = append(s.lists, handIn(l))
		s.bytes = append(s.bytes, roomy(listOf(l...)))
	}
	return s
}

// tell tells all of it, spare room too.
func (s *stock) tell() string {
	out := s.src.tell()
	for _, h := range s.lists {
		out += h.tell()
	}
	for _, b := range append(slices.Clone(s.keys), s.bytes...) {
		out += fmt.Sprintf("%x %d ", b[:cap(b)], len(b))
	}
	return out
}

// answers is what all calls hand out.
type answers struct {
	proofs, packed [][]byte
	lists          [][][]byte
}

func (s *stock) askAll(t *testing.T) answers {
	t.Helper()
	var out answers
	for _, key := range s.keys {
		b, e := proof.Prove(s.src, s.book, s.root, key)
		out.proofs = append(out.proofs, b)
		if e != api.OK {
			t.Errorf("15.3: %d", e)
		}
	}
	for i, h := range s.lists {
		b, e := proof.Pack(h.l)
		l, f := proof.Unpack(s.bytes[i])
		out.packed = append(out.packed, b)
		out.lists = append(out.lists, l)
		if e != api.OK || f != api.OK {
			t.Errorf("15.1, 15.2: %d, %d", e, f)
		}
	}
	return out
}

func (a answers) tell() string { return fmt.Sprintf("%x %x %x", a.proofs, a.packed, a.lists) }

// all tells all lists of bytes of answers.
func (a answers) all() [][]byte {
	return slices.Concat(a.proofs, a.packed, slices.Concat(a.lists...))
}

// spoil writes into all lists of lists of answers, spare room too, but not into the bytes that stand there.
func (a answers) spoil() {
	for _, l := range a.lists {
		clear(l[:cap(l)])
	}
}

func TestWhatIsHandedOutIsNew(t *testing.T) {
	s := newStock(t)
	was := s.tell()
	first, second := s.askAll(t), s.askAll(t)
	said := second.tell()
	if first.tell() != said {
		t.Errorf("R5: calls that are done again answer otherwise")
	}
	first.spoil()
	if second.tell() != said {
		t.Errorf("R3: two answers are one list")
	}
	first = s.askAll(t)
	if shared(append(first.all(), second.all()...)) {
		t.Errorf("R3: two answers, or two lists of one, share memory")
	}
	second.spoil()
	if s.tell() != was {
		t.Errorf("R3: what was handed in is changed, or shares memory with an answer")
	}
	if third := s.askAll(t); third.tell() != said {
		t.Errorf("R3: whoever writes into an answer changes the next one")
	}
	if !s.book.Sound() {
		t.Errorf("R3: the book is not sound")
	}
}

// What stands in an answer stays, whatever becomes of what was handed in.
func TestWhatIsHandedInIsNotKept(t *testing.T) {
	s := newStock(t)
	got := s.askAll(t)
	said := got.tell()
	for _, h := range s.lists {
		h.takeBack(t)
	}
	for _, b := range append(slices.Clone(s.keys), s.bytes...) {
		fill(b, 0x66)
	}
	for _, b := range s.src {
		fill(b, 0x66)
	}
	if got.tell() != said {
		t.Errorf("R3: an answer shares memory with what was handed in")
	}
	if b, e := proof.Prove(s.src, s.book, s.root, nil); len(b) != 0 || e != api.ErrNode {
		t.Errorf("15.5: a node that was read is kept: %x, %d", b, e)
	}
}

// One memory as several strings of a list: each string that comes back has its own.
func TestStringsThatAreOneMemory(t *testing.T) {
	one := roomy(sized(60))
	l := [][]byte{one, one[:20], one[20:40], one[:1], one, one[59:]}
	b, e := proof.Pack(l)
	if e != api.OK || string(b) != listOf(told(l)...) {
		t.Fatalf("15.1: %x, %d", b, e)
	}
	back, e := proof.Unpack(b)
	if e != api.OK || !slices.Equal(told(back), told(l)) {
		t.Fatalf("15.2: %x, %d", back, e)
	}
	if was := string(b); shared(back) || string(b) != was || string(one) != sized(60) {
		t.Errorf("R3: two strings of one answer share memory, or share it with what was handed in")
	}
}

// Bytes of a wrong proof, and a wrong list, are not changed either.
func TestWrongInputsAreUnchanged(t *testing.T) {
	for _, l := range [][]string{{""}, {"a", ""}, {sized(1025)}, {sized(1024), sized(1025), "x"}, many(128, sized(1024))} {
		if b, e := pack(t, l); b != "" || e != api.ErrInput {
			t.Errorf("15.1: %x, %d", b, e)
		}
		if got, e := unpack(t, listOf(l...)); len(got) != 0 || e != api.ErrProof {
			t.Errorf("15.2: %x, %d", got, e)
		}
	}
}

// meddler is a source that writes into the key that was handed in, while the call is on its way.
type meddler struct {
	*shelf
	key []byte
}

func (m meddler) Node(h api.Hash) ([]byte, api.Errno) {
	fill(m.key, 0x66)
	return m.shelf.Node(h)
}

func TestKeysAreNotKept(t *testing.T) {
	r := newRig(t, 256)
	m := r.plant(grove())
	for _, key := range nearAll(grove()) {
		in := roomy(key)
		if b, e := proof.Prove(meddler{r.src, in}, r.book, m.root, in); string(b) != listOf(m.trail(key)...) || e != api.OK {
			t.Errorf("R3: %x: %x, %d", key, b, e)
		}
	}
}

func TestNilAndEmptyAreOne(t *testing.T) {
	r := newRig(t, 256)
	m := r.plant(grove())
	for _, none := range [][]byte{nil, {}, make([]byte, 0, 9)} {
		if b, e := proof.Prove(r.src, r.book, m.root, none); string(b) != listOf(m.trail("")...) || e != api.OK {
			t.Errorf("R4: Prove of the empty key: %x, %d", b, e)
		}
		if l, e := proof.Unpack(none); len(l) != 0 || e != api.ErrProof {
			t.Errorf("R4: Unpack of nothing: %x, %d", l, e)
		}
		if b, e := proof.Pack([][]byte{none}); len(b) != 0 || e != api.ErrInput {
			t.Errorf("R4: Pack of an empty string: %x, %d", b, e)
		}
		if b, e := proof.Pack([][]byte{{1}, none, {2}}); len(b) != 0 || e != api.ErrInput {
			t.Errorf("R4: Pack of an empty string among others: %x, %d", b, e)
		}
	}
	for _, none := range [][][]byte{nil, {}, make([][]byte, 0, 9), roomyList()[:0]} {
		if b, e := proof.Pack(none); string(b) != "\xc0" || e != api.OK {
			t.Errorf("R4: Pack of none: %x, %d", b, e)
		}
	}
}

func roomyList() [][]byte { return [][]byte{[]byte("spare"), nil, []byte("room")} }

// An answer is zero beside an error.
func TestZeroBesideAnError(t *testing.T) {
	r := newRig(t, 256)
	root, key, encodings := chain(r)
	for _, s := range encodings {
		r.src.blobs[hashOf(256, s)] = "wrong"
		if b, e := proof.Prove(r.src, r.book, root, []byte(key)); b != nil || e != api.ErrNode {
			t.Errorf("R2: Prove: %x, %d", b, e)
		}
		r.lay(s)
	}
	if b, e := proof.Pack([][]byte{[]byte("right"), make([]byte, 1025)}); b != nil || e != api.ErrInput {
		t.Errorf("R2: Pack: %x, %d", b, e)
	}
	for _, s := range []string{"", "\xc2a\x80", "\xc2a\xc0", "\xc2ab\x00", listOf("right", sized(1025))} {
		if l, e := proof.Unpack([]byte(s)); l != nil || e != api.ErrProof {
			t.Errorf("R2: Unpack: %x, %d", l, e)
		}
	}
}

// What is answered does not hang on the book's past.
func TestPastsThatDoNotCount(t *testing.T) {
	s := newStock(t)
	said := s.askAll(t).tell()
	for _, x := range []string{"", "\x80", "anything", long} {
		s.book.Hash([]byte(x))
		s.book.Code([]byte(x))
		s.book.Accept([]byte(x+"?"), api.Hash{})
	}
	hashed, coded := s.book.Len()
	if s.askAll(t).tell() != said {
		t.Errorf("R5: an answer hangs on what the book has hashed")
	}
	if h, c := s.book.Len(); h != hashed || c != coded {
		t.Errorf("R7: the same calls hash or code other strings: %d, %d behind %d, %d", h, c, hashed, coded)
	}
}

// All strings of a proof have been hashed by the book, and nothing is coded.
func TestWhatTheBookKnows(t *testing.T) {
	m := plant(256, grove())
	for _, key := range nearAll(grove()) {
		book := newBook(t, 256)
		if _, e := proof.Prove(kept(m), book, m.root, []byte(key)); e != api.OK {
			t.Fatalf("15.3: %d", e)
		}
		hashed, coded := book.Len()
		book.Hash([]byte{128})
		for _, s := range m.trail(key) {
			book.Hash([]byte(s))
		}
		if now, _ := book.Len(); now != hashed || coded != 0 {
			t.Fatalf("R7: %d strings were not hashed, %d are coded", now-hashed, coded)
		}
	}
}

// Many may ask over one source and one book at the same time.
func TestSideBySide(t *testing.T) {
	s := newStock(t)
	was := s.tell()
	said := make([]string, 8)
	var all sync.WaitGroup
	for i := range said {
		all.Go(func() {
			for range 20 {
				said[i] = s.askAll(t).tell()
			}
		})
	}
	all.Wait()
	for i := range said {
		if said[i] != said[0] {
			t.Fatalf("R5: two who ask the same at the same time are told otherwise")
		}
	}
	if s.tell() != was {
		t.Errorf("R3: what was handed in is changed")
	}
}
