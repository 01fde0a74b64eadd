package extract_test

import (
	"fmt"
	"slices"
	"strings"
	"sync"
	"testing"

	"cairn/api"
	"cairn/digest"
	"cairn/extract"
)

// shared writes a mark of its own into each list, spare room too, and tells whether one of them has lost its mark. A mark is one
// byte: so it is done twice, and no two lists have the same mark both times.
func shared(all [][]byte) bool {
	for _, marks := range []int{251, 241} {
		for i, b := range all {
			fill(b, byte(i%marks))
		}
		for i, b := range all {
			if !isAll(b, byte(i%marks)) {
				return true
			}
		}
	}
	return false
}

// stock is what the calls are handed, more than once: in some cases a proof shows another string, in some the nodes do, in some nothing does.
type stock struct {
	book  *digest.Book
	root  api.Hash
	cases []*handed
	aims  []aim
}

func newStock(t *testing.T) *stock {
	const bits = 12
	root, nodes, all := yardOf(t, bits)
	s := &stock{book: newBook(t, bits), root: root}
	add := func(nodes []string, at aim, l ...string) {
		s.cases, s.aims = append(s.cases, hand(nodes, at, listOf(l...))), append(s.aims, at)
	}
	for _, at := range []aim{to("\x01\x23\x45\x67\x89"), to("\x01\x24\x44"), overAll(), over(within("\x01\x24", "\x01\x25"))} {
		for _, name := range []string{"top", "fork", "end", "side"} {
			mine := nodes[name]
			twin := another(bits, hashOf(bits, mine), asLeaf("1"), mine)
			l := named(nodes, "top over fork middle under end")
			switch {
			case at.ranged && at.b.open:
				l = all
			case at.key == "\x01\x24\x44" || at.ranged:
				l = named(nodes, "top over fork side")
			}
			add(all, at, l...)
			add(append(slices.Clone(all), twin), at, l...)
			if k := slices.Index(l, mine); k >= 0 {
				add(all, at, instead(l, k, twin)...)
			}
		}
		add(append(slices.Clone(all), another(bits, emptyRoot(bits), asJunk)), at)
	}
	return s
}

func (s *stock) tell() string {
	var out []string
	for _, c := range s.cases {
		out = append(out, c.tell())
	}
	return strings.Join(out, " ")
}

// answers is what the calls answer.
type answers struct {
	pairs []api.Pair
	errs  []api.Errno
}

func (s *stock) ask() answers {
	var out answers
	for i, c := range s.cases {
		p, e := extract.Key(s.book, c.nodes, s.root, c.key, c.proof)
		if s.aims[i].ranged {
			p, e = extract.Span(s.book, c.nodes, s.root, c.b, c.proof)
		}
		out.pairs, out.errs = append(out.pairs, p), append(out.errs, e)
	}
	return out
}

func (a answers) tell() string { return fmt.Sprintf("%x %d", a.pairs, a.errs) }

// lists tells all lists of bytes of answers.
func lists(all ...answers) [][]byte {
	var out [][]byte
	for _, a := range all {
		for _, p := range a.pairs {
			out = append(out, p.A, p.B)
		}
	}
	return out
}

func TestWhatIsHandedOutIsNew(t *testing.T) {
	s := newStock(t)
	was := s.tell()
	first, second := s.ask(), s.ask()
	text := second.tell()
	if first.tell() != text {
		t.Errorf("R5: calls that are done again answer otherwise")
	}
	told := 0
	for _, e := range first.errs {
		if e == api.OK {
			told++
		} else if e != api.ErrNone {
			t.Errorf("an error %d", e)
		}
	}
	if told < 20 || len(first.errs)-told < 10 {
		t.Errorf("%d pairs of %d are told: too few, or too many, to tell", told, len(first.errs))
	}
	if shared(lists(first, second)) {
		t.Errorf("R3: two answers, or the two strings of one, share memory")
	}
	if s.tell() != was {
		t.Errorf("R3: what was handed in is changed, or shares memory with an answer")
	}
	if s.ask().tell() != text {
		t.Errorf("R3: whoever writes into an answer changes the next one")
	}
}

// What stands in an answer stays, whatever becomes of what was handed in; and of what was handed in nothing is kept.
func TestWhatIsHandedInIsNotKept(t *testing.T) {
	s := newStock(t)
	got := s.ask()
	text := got.tell()
	for _, c := range s.cases {
		for _, b := range c.lists() {
			fill(b, 0x66)
		}
	}
	if got.tell() != text {
		t.Errorf("R3: an answer shares memory with what was handed in")
	}
	other := newStock(t)
	other.book = s.book
	if other.ask().tell() != text {
		t.Errorf("R3: the same call answers otherwise behind one whose arguments were spoilt")
	}
	for _, at := range s.aims { // all that is needed was shown and laid once: now it is not there
		in := hand(nil, at, "\xc0")
		p, e := extract.Key(s.book, in.nodes, s.root, in.key, in.proof)
		if at.ranged {
			p, e = extract.Span(s.book, in.nodes, s.root, in.b, in.proof)
		}
		if p.A != nil || p.B != nil || e != api.ErrNone {
			t.Errorf("R5: a string of an earlier call is kept: %x, %d", p, e)
		}
	}
}

// One memory as nodes, key, bounds and proof.
func TestArgumentsThatAreOneMemory(t *testing.T) {
	const bits = 8
	book := newBook(t, bits)
	twin := kTwin(bits, kLeaf)
	memory := roomy(listOf(twin) + kLeaf + "k")
	b := memory[:len(listOf(twin))]
	mine := memory[len(b) : len(b)+len(kLeaf)]
	key := memory[len(b)+len(kLeaf):]
	was := whole(memory)
	root := hashOf(bits, kLeaf)
	var all [][]byte
	look := func(what string, p api.Pair, e api.Errno, first, second string) {
		t.Helper()
		if string(p.A) != first || string(p.B) != second || e != api.OK {
			t.Errorf("18.1: %s: %x, %d", what, p, e)
		}
		all = append(all, p.A, p.B)
	}
	p, e := extract.Key(book, [][]byte{mine}, root, key, b)
	look("key", p, e, kLeaf, twin)
	p, e = extract.Key(book, [][]byte{mine, mine, mine}, root, key, b)
	look("one memory thrice among the nodes", p, e, kLeaf, twin)
	p, e = extract.Key(book, [][]byte{b[len(b)-len(twin):], mine}, root, key, b)
	look("the proof's string among the nodes", p, e, twin, kLeaf)
	p, e = extract.Span(book, [][]byte{mine}, root, api.Bounds{From: key, Open: true}, b)
	look("span", p, e, kLeaf, twin)
	p, e = extract.Span(book, [][]byte{mine}, root, api.Bounds{From: key, To: key}, b)
	look("span", p, e, kLeaf, twin)
	p, e = extract.Span(book, [][]byte{mine}, root, api.Bounds{From: mine, To: mine}, b)
	look("span", p, e, kLeaf, twin)
	if shared(all) || whole(memory) != was {
		t.Errorf("R3: two answers share memory, or share it with what was handed in")
	}
}

// One list of nodes, handed to several calls, with spare room that somebody else has.
func TestSpareRoomOfTheNodes(t *testing.T) {
	const bits = 12
	root, _, all := yardOf(t, bits)
	book := newBook(t, bits)
	twin := another(bits, hashOf(bits, all[0]), asLeaf("1"), all[0])
	list := roomyList(append(slices.Clone(all), twin))
	for n := range len(list) + 1 {
		for _, bytes := range []string{listOf(all...), listOf(twin), "\xc0", ""} {
			was := fmt.Sprintf("%x", list[:cap(list)])
			p, e := extract.Key(book, list[:n], root, nil, []byte(bytes))
			q, f := extract.Span(book, list[:n], root, api.Bounds{Open: true}, []byte(bytes))
			if fmt.Sprintf("%x", list[:cap(list)]) != was {
				t.Fatalf("R3: the spare room behind %d nodes is changed", n)
			}
			want := askKey(bits, append(slices.Clone(all), twin)[:n], root, "", bytes)
			if (found{string(p.A), string(p.B), e}) != want || (found{string(q.A), string(q.B), f}) != want {
				t.Errorf("18.1: %d nodes: %x, %d; %x, %d; not %v", n, p, e, q, f, want)
			}
		}
	}
}

func TestNilAndEmptyAreOne(t *testing.T) {
	const bits = 8
	book := newBook(t, bits)
	empty := another(bits, hashOf(bits, ""), asJunk)
	nones := [][]byte{nil, {}, make([]byte, 0, 9)}
	for _, none := range nones {
		for _, nodes := range [][][]byte{nil, {}, make([][]byte, 0, 3)} {
			if p, e := extract.Key(book, nodes, emptyRoot(bits), none, []byte{0xc0}); p.A != nil || p.B != nil || e != api.ErrNone {
				t.Errorf("R4: %x, %d", p, e)
			}
			if p, e := extract.Key(book, nodes, emptyRoot(bits), none, none); p.A != nil || p.B != nil || e != api.ErrNone {
				t.Errorf("R4: no bytes are no proof: %x, %d", p, e)
			}
			for _, other := range nones {
				twin := kTwin(bits, nothing)
				p, e := extract.Span(book, nodes, emptyRoot(bits), api.Bounds{From: none, To: other, Open: true}, []byte(listOf(twin)))
				if string(p.A) != nothing || string(p.B) != twin || e != api.OK {
					t.Errorf("R4: %x, %d", p, e)
				}
				if p, e := extract.Span(book, nodes, emptyRoot(bits), api.Bounds{From: none, To: other}, []byte(listOf(twin))); p.A != nil || p.B != nil || e != api.ErrNone {
					t.Errorf("R4: %x, %d", p, e)
				}
			}
		}
		for _, other := range nones {
			if p, e := extract.Key(book, [][]byte{none, other}, hashOf(bits, ""), nil, []byte(listOf(empty))); len(p.A) != 0 || string(p.B) != empty || e != api.OK {
				t.Errorf("R4: two empty strings are no clash: %x, %d", p, e)
			}
		}
	}
}

// What is answered does not hang on the book's past.
func TestPastsThatDoNotCount(t *testing.T) {
	s := newStock(t)
	text := s.ask().tell()
	for i := range 9000 { // so many that nearly every hash of 12 bits is met
		s.book.Hash([]byte(fmt.Sprint(i)))
	}
	s.book.Code([]byte("anything"))
	s.book.Accept([]byte("anything else"), api.Hash{})
	if s.book.Sound() {
		t.Fatalf("the book is sound")
	}
	if s.ask().tell() != text {
		t.Errorf("R5: an answer hangs on what the book has hashed before")
	}
	hashed, coded := s.book.Len()
	if s.ask().tell() != text {
		t.Errorf("R5: an answer hangs on what was asked before")
	}
	if h, c := s.book.Len(); h != hashed || c != coded {
		t.Errorf("R7: the same calls hash or code other strings: %d, %d behind %d, %d", h, c, hashed, coded)
	}
}

// knows tells whether a book has hashed these strings, and coded nothing.
func knows(book *digest.Book, l ...string) bool {
	hashed, coded := book.Len()
	for _, s := range l {
		book.Hash([]byte(s))
	}
	now, _ := book.Len()
	return now == hashed && coded == 0
}

// All strings whose hashes are compared have been hashed by the book, and nothing is coded.
func TestWhatTheBookKnows(t *testing.T) {
	for _, bits := range []int{12, 256} {
		root, nodes, all := yardOf(t, bits)
		for _, c := range yardAims() {
			l := named(nodes, c.needs)
			r := newRig(t, bits)
			r.call(all, root, c.at, listOf(l...))
			if !knows(r.book, append(slices.Clone(all), nothing)...) {
				t.Fatalf("R7: %v: a string of the map was not hashed", c.at)
			}
			for at := range l {
				r.book = newBook(t, bits)
				r.call(all, root, c.at, listOf(instead(l, at, "another")...))
				if !knows(r.book, "another") {
					t.Fatalf("R7: %v: a string of the proof was compared and not hashed", c.at)
				}
			}
		}
	}
	r := newRig(t, 256)
	r.call(nil, api.Hash{}, to(""), "no proof")
	if !knows(r.book, nothing) {
		t.Errorf("R7: the byte was not hashed")
	}
}

// Both strings of a pair stand among the book's clashes, and a book that told nothing of a right proof is sound.
func TestWhatClashesTell(t *testing.T) {
	for _, bits := range twinBits {
		root, nodes, all := yardOf(t, bits)
		for _, name := range order {
			mine := nodes[name]
			for _, twin := range twinsOf(bits, mine) {
				own, shown := newRig(t, bits), newRig(t, bits)
				own.call(append([]string{twin}, all...), root, to("k"), "")
				l := append(slices.Clone(all[:slices.Index(all, mine)]), twin)
				shown.call(all, root, overAll(), listOf(l...))
				for _, r := range []*rig{own, shown} {
					clashes := r.book.Clashes()
					if len(clashes) != 1 || string(clashes[0].A) != min(mine, twin) || string(clashes[0].B) != max(mine, twin) {
						t.Fatalf("18.4: %s: %d clashes", name, len(clashes))
					}
				}
			}
		}
		r := newRig(t, bits)
		r.call(all, root, overAll(), listOf(all...))
		if !r.book.Sound() {
			t.Errorf("18.5: the book is not sound")
		}
	}
}

// Many may ask by one book at the same time, with the same nodes and proofs.
func TestSideBySide(t *testing.T) {
	s := newStock(t)
	was := s.tell()
	text := make([]string, 8)
	var all sync.WaitGroup
	for i := range text {
		all.Go(func() {
			for range 5 {
				text[i] = s.ask().tell()
			}
		})
	}
	all.Wait()
	for i := range text {
		if text[i] != text[0] {
			t.Fatalf("R5: two who ask the same at the same time are told otherwise")
		}
	}
	if s.tell() != was {
		t.Errorf("R3: what was handed in is changed")
	}
}
