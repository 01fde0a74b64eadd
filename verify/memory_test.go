package verify_test

import (
	"fmt"
	"slices"
	"sync"
	"testing"

	"cairn/api"
	"cairn/digest"
	"cairn/verify"
)

// shared writes a mark of its own into each list, spare room too, and tells whether one of them has lost its mark. A mark is one
// byte: so it is done twice, and no two lists have the same mark both times.
func shared(all [][]byte) bool {
	for _, marks := range []int{251, 241} {
		for i, b := range all {
			fill(b, byte(i%marks))
		}
		for i, b := range all {
			if !isAll(b, byte(i%marks)) {
				return true
			}
		}
	}
	return false
}

// stock is what the calls are handed, more than once: claims in a list with spare room.
type stock struct {
	book   *digest.Book
	root   api.Hash
	claims []verify.Claim
}

func newStock(t *testing.T) *stock {
	m := plant(256, grove())
	s := &stock{book: newBook(t, 256), root: m.root, claims: someClaims(m)}
	s.claims = append(s.claims, verify.Claim{Key: roomy("spare"), Proof: roomy("room")}, verify.Claim{})[:len(s.claims)]
	return s
}

// tell tells all of it, spare room too.
func (s *stock) tell() string {
	out := fmt.Sprintf("%d ", len(s.claims))
	for _, c := range s.claims[:cap(s.claims)] {
		out += fmt.Sprintf("%x %d %x %d ", c.Key[:cap(c.Key)], len(c.Key), c.Proof[:cap(c.Proof)], len(c.Proof))
	}
	return out
}

// spoil writes over all of it.
func (s *stock) spoil() {
	for _, c := range s.claims[:cap(s.claims)] {
		fill(c.Key, 0x66)
		fill(c.Proof, 0x66)
	}
	clear(s.claims[:cap(s.claims)])
}

// askAll asks for all claims, by All and by Verify.
func (s *stock) askAll() [][]verify.Answer {
	out := [][]verify.Answer{verify.All(s.book, s.root, s.claims...), nil}
	for _, c := range s.claims {
		v, found, e := verify.Verify(s.book, s.root, c.Key, c.Proof)
		out[1] = append(out[1], verify.Answer{Value: v, Found: found, Err: e})
	}
	return out
}

func tellAll(l [][]verify.Answer) string {
	out := ""
	for _, a := range slices.Concat(l...) {
		out += fmt.Sprintf("%x %v %d ", a.Value, a.Found, a.Err)
	}
	return out
}

// values tells all lists of bytes of answers.
func values(l ...[][]verify.Answer) [][]byte {
	var out [][]byte
	for _, a := range slices.Concat(slices.Concat(l...)...) {
		out = append(out, a.Value)
	}
	return out
}

func TestWhatIsHandedOutIsNew(t *testing.T) {
	s := newStock(t)
	was := s.tell()
	first, second := s.askAll(), s.askAll()
	said := tellAll(second)
	if tellAll(first) != said || tellAll(first[:1]) != tellAll(first[1:]) {
		t.Errorf("R5: calls that are done again answer otherwise")
	}
	for _, l := range first {
		clear(l[:cap(l)])
	}
	if tellAll(second) != said {
		t.Errorf("R3: two answers are one list")
	}
	first = s.askAll()
	if shared(values(first, second)) {
		t.Errorf("R3: two answers, or two lists of one, share memory")
	}
	if s.tell() != was {
		t.Errorf("R3: what was handed in is changed, or shares memory with an answer")
	}
	if tellAll(s.askAll()) != said {
		t.Errorf("R3: whoever writes into an answer changes the next one")
	}
	if !s.book.Sound() {
		t.Errorf("R3: the book is not sound")
	}
}

// What stands in an answer stays, whatever becomes of what was handed in.
func TestWhatIsHandedInIsNotKept(t *testing.T) {
	s := newStock(t)
	got := s.askAll()
	said := tellAll(got)
	s.spoil()
	if tellAll(got) != said {
		t.Errorf("R3: an answer shares memory with what was handed in")
	}
	m := plant(256, grove())
	if _, _, e := verify.Verify(s.book, m.root, []byte("\x12"), []byte{0xc0}); e != api.ErrProof {
		t.Errorf("16.3: a string that was shown is kept: %d", e)
	}
}

// One memory as the keys and proofs of many claims: each answer has its own.
func TestClaimsThatAreOneMemory(t *testing.T) {
	r := newRig(t, 256)
	one := leaf("1234", "\x12\x34")
	memory := roomy(listOf(one) + "\x12\x34")
	b, key := memory[:len(memory)-2], memory[len(memory)-2:]
	was := string(memory[:cap(memory)])
	var claims []verify.Claim
	for range 50 {
		claims = append(claims, verify.Claim{Key: key, Proof: b}, verify.Claim{Key: b[:1], Proof: b}, verify.Claim{Key: b, Proof: b[:3]})
	}
	l := verify.All(r.book, r.hash(one), claims...)
	for i, a := range l {
		if want := []verdict{{"\x12\x34", true, api.OK}, {}, {e: api.ErrProof}}[i%3]; verdictOf(a) != want {
			t.Errorf("16.4: answer %d: %v, not %v", i, verdictOf(a), want)
		}
	}
	if shared(values([][]verify.Answer{l})) || string(memory[:cap(memory)]) != was {
		t.Errorf("R3: two answers share memory, or share it with what was handed in")
	}
}

func TestNilAndEmptyAreOne(t *testing.T) {
	r := newRig(t, 256)
	m := plant(256, grove())
	b := []byte(m.proof(""))
	for _, none := range [][]byte{nil, {}, make([]byte, 0, 9)} {
		if v, found, e := verify.Verify(r.book, m.root, none, b); string(v) != "e" || !found || e != api.OK {
			t.Errorf("R4: the empty key: %x, %v, %d", v, found, e)
		}
		if v, found, e := verify.Verify(r.book, emptyRoot(256), none, []byte{0xc0}); len(v) != 0 || found || e != api.OK {
			t.Errorf("R4: the empty key in the empty trie: %x, %v, %d", v, found, e)
		}
		for _, root := range []api.Hash{m.root, emptyRoot(256), {}} {
			if v, found, e := verify.Verify(r.book, root, nil, none); len(v) != 0 || found || e != api.ErrProof {
				t.Errorf("R4: no bytes: %x, %v, %d", v, found, e)
			}
		}
		l := verify.All(r.book, m.root, verify.Claim{Key: none, Proof: b}, verify.Claim{Key: none, Proof: none})
		if len(l) != 2 || string(l[0].Value) != "e" || l[1].Err != api.ErrProof {
			t.Errorf("R4: %v", l)
		}
	}
}

// All else is zero beside an error, however far the way has come; and no value stands beside a false.
func TestZeroBesideAnError(t *testing.T) {
	book := newBook(t, 256)
	root, key, l := chain(256)
	wrong := [][]string{nil, append(slices.Clone(l), "x"), append(slices.Clone(l), l[5])}
	for at := range l {
		wrong = append(wrong, l[:at], instead(l, at, "x"))
	}
	for _, w := range wrong {
		b := []byte(listOf(w...))
		if v, found, e := verify.Verify(book, root, []byte(key), b); v != nil || found || e != api.ErrProof {
			t.Errorf("R2: %x, %v, %d", v, found, e)
		}
		if a := verify.All(book, root, verify.Claim{Key: []byte(key), Proof: b})[0]; a.Value != nil || a.Found || a.Err != api.ErrProof {
			t.Errorf("R2: %v", a)
		}
	}
	right := []byte(listOf(l...))
	if v, found, e := verify.Verify(nil, root, []byte(key), right); v != nil || found || e != api.ErrHandle {
		t.Errorf("R2: %x, %v, %d", v, found, e)
	}
	if v, found, e := verify.Verify(book, root, make([]byte, 33), right); v != nil || found || e != api.ErrInput {
		t.Errorf("R2: %x, %v, %d", v, found, e)
	}
	for other, c := range chainKeys() {
		if v, found, e := verify.Verify(book, root, []byte(other), []byte(listOf(l[:c.n]...))); string(v) != c.value || found != (len(v) > 0) || e != api.OK {
			t.Errorf("16.3: %x: %x, %v, %d", other, v, found, e)
		}
	}
}

// What is answered does not hang on the book's past.
func TestPastsThatDoNotCount(t *testing.T) {
	s := newStock(t)
	said := tellAll(s.askAll())
	for _, x := range []string{"", "\x80", "anything", long} {
		s.book.Hash([]byte(x))
		s.book.Code([]byte(x))
		s.book.Accept([]byte(x+"?"), api.Hash{})
	}
	hashed, coded := s.book.Len()
	if tellAll(s.askAll()) != said {
		t.Errorf("R5: an answer hangs on what the book has hashed")
	}
	if h, c := s.book.Len(); h != hashed || c != coded {
		t.Errorf("R7: the same calls hash or code other strings: %d, %d behind %d, %d", h, c, hashed, coded)
	}
}

// All strings whose hashes are compared have been hashed by the book, and nothing is coded.
func TestWhatTheBookKnows(t *testing.T) {
	m := plant(256, grove())
	knows := func(book *digest.Book, l ...string) bool {
		hashed, coded := book.Len()
		for _, s := range l {
			book.Hash([]byte(s))
		}
		now, _ := book.Len()
		return now == hashed && coded == 0
	}
	for _, key := range nearAll(grove()) {
		l := m.trail(key)
		book := newBook(t, 256)
		if _, _, e := verify.Verify(book, m.root, []byte(key), []byte(listOf(l...))); e != api.OK || !knows(book, append(slices.Clone(l), "\x80")...) {
			t.Fatalf("R7: of an accepted proof a string was not hashed; %d", e)
		}
		book = newBook(t, 256)
		verify.All(book, m.root, verify.Claim{Key: []byte(key), Proof: []byte(listOf(l...))})
		if !knows(book, append(slices.Clone(l), "\x80")...) {
			t.Fatalf("R7: of an accepted proof a string was not hashed by All")
		}
		for at := range l {
			book = newBook(t, 256)
			verify.Verify(book, m.root, []byte(key), []byte(listOf(instead(l, at, "another")...)))
			if !knows(book, append(slices.Clone(l[:at]), "another", "\x80")...) {
				t.Fatalf("R7: of a refused proof a string that was compared was not hashed")
			}
		}
	}
	book := newBook(t, 256)
	verify.Verify(book, emptyRoot(256), nil, []byte{0xc0})
	if !knows(book, "\x80") {
		t.Errorf("R7: the empty trie's root was not hashed")
	}
}

// Many may ask by one book at the same time, with the same claims.
func TestSideBySide(t *testing.T) {
	s := newStock(t)
	was := s.tell()
	said := make([]string, 8)
	var all sync.WaitGroup
	for i := range said {
		all.Go(func() {
			for range 5 {
				said[i] = tellAll(s.askAll())
			}
		})
	}
	all.Wait()
	for i := range said {
		if said[i] != said[0] {
			t.Fatalf("R5: two who ask the same at the same time are told otherwise")
		}
	}
	if s.tell() != was {
		t.Errorf("R3: what was handed in is changed")
	}
}

// Two books of the same bits tell the same, whichever has hashed the strings already; All by one leaves it as Verify does the other.
func TestBooksAreLeftTheSame(t *testing.T) {
	for _, bits := range []int{8, 256} {
		m := plant(bits, grove())
		one, other := newBook(t, bits), newBook(t, bits)
		claims := someClaims(m)
		verify.All(one, m.root, claims...)
		for _, c := range claims {
			verify.Verify(other, m.root, c.Key, c.Proof)
		}
		h, c := one.Len()
		if g, d := other.Len(); h != g || c != d || fmt.Sprint(one.Clashes()) != fmt.Sprint(other.Clashes()) || one.Sound() != other.Sound() {
			t.Errorf("R5: by %d bits All leaves a book with %d, %d strings, Verify with %d, %d", bits, h, c, g, d)
		}
	}
}
