package sweep_test

import (
	"fmt"
	"strings"
	"testing"

	"cairn/api"
	"cairn/digest"
	"cairn/hstore"
	"cairn/sweep"
)

// garden lays nodes of all kinds on a shelf, and tells their hashes by their names: "over" leads to "fork" and stands ahead of
// "mid" in "top"; "left" stands in "top" twice, "low" in "mid" and in "fork".
func garden(s *stand) map[string]api.Hash {
	g := map[string]api.Hash{}
	name := func(name, encoding string) string {
		g[name] = s.lay(encoding)
		return by(g[name])
	}
	low := name("low", leaf("123", long))
	right := name("right", leaf("45", long))
	fork := name("fork", branch(long, kid{0, low}, kid{3, leaf("1", "whole")}, kid{10, right}))
	over := name("over", ext("678", fork))
	mid := name("mid", branch("", kid{1, leaf("22", "w")}, kid{2, low}, kid{15, fork}))
	left := name("left", leaf("9", long+long))
	name("top", branch("v", kid{0, over}, kid{4, mid}, kid{5, branch("", kid{1, leaf("", "a")}, kid{2, leaf("", "b")})}, kid{8, left}, kid{14, left}))
	return g
}

// byNames tells hashes of a garden by their names.
func byNames(g map[string]api.Hash, names string) []api.Hash {
	var out []api.Hash
	for _, name := range strings.Fields(names) {
		h, there := g[name]
		if !there {
			panic(name)
		}
		out = append(out, h)
	}
	return out
}

// widths are the bits of books of which no two nodes of the garden have one hash.
var widths = []int{256, 255, 129, 40, 24}

// rows are roots in the garden, and what is read then, in which order. "none" is the empty trie's root.
var rows = []struct{ roots, read string }{
	{"", ""},
	{"none", ""},
	{"none none", ""},
	{"low", "low"},
	{"low low", "low"},
	{"low low low none low", "low"},
	{"over", "over fork low right"},
	{"fork", "fork low right"},
	{"mid", "mid low fork right"},
	{"top", "top over mid left fork low right"},
	{"none top", "top over mid left fork low right"},
	{"top none", "top over mid left fork low right"},
	{"top top", "top over mid left fork low right"},
	{"top low", "top low over mid left fork right"},
	{"low top", "low top over mid left fork right"},
	{"top mid", "top mid over left low fork right"},
	{"mid top", "mid top low fork over left right"},
	{"right over none fork", "right over fork low"},
	{"fork none over low fork", "fork over low right"},
	{"over mid", "over mid fork low right"},
	{"mid over", "mid over low fork right"},
	{"left right low fork mid over top", "left right low fork mid over top"},
	{"top over mid fork left right low", "top over mid fork left right low"},
}

func TestWhatIsReadAndTold(t *testing.T) {
	for _, bits := range widths {
		for _, c := range rows {
			s := newStand(t, bits)
			g := garden(s)
			g["none"] = emptyRoot(bits)
			s.tells(fmt.Sprintf("%d bits, roots %q", bits, c.roots), byNames(g, c.read), byNames(g, c.roots)...)
		}
	}
}

// Nothing is asked of the source for the empty trie's root, whatever lies under it there.
func TestUnderTheEmptyRoot(t *testing.T) {
	for _, lies := range []string{"\x80", leaf("12", long), "rubbish"} {
		s := newStand(t, 256)
		g := garden(s)
		none := emptyRoot(256)
		s.src.blobs[none] = lies
		s.tells("the empty trie's root alone", nil, none)
		s.tells("among others", byNames(g, "fork low right"), none, g["fork"], none)
		s.src.errs[none] = api.ErrDown
		s.tells("with an error under it", byNames(g, "fork low right"), g["fork"], none)
	}
}

// withHash tells a leaf that has a hash of so few bits.
func withHash(bits int, h api.Hash) string {
	for i := 0; ; i++ {
		if b := leaf("12", fmt.Sprintf("%s %d", long, i)); hashOf(bits, b) == h {
			return b
		}
	}
}

// A hash that stands in a node is read, be it the empty trie's root too.
func TestTheEmptyRootWithinANode(t *testing.T) {
	for _, bits := range []int{8, 9, 12} {
		none := emptyRoot(bits)
		for _, kind := range []string{"branch", "extension"} {
			s := newStand(t, bits)
			s.src.blobs[none] = withHash(bits, none)
			other := s.by(leaf("77", long))
			encoding := ext("5", by(none))
			if kind == "branch" {
				encoding = branch("", kid{1, by(none)}, kid{2, other})
			}
			top := s.lay(encoding)
			if top == none {
				t.Fatalf("%d bits: the root is the empty trie's", bits)
			}
			want := []api.Hash{top, none}
			if kind == "branch" {
				want = append(want, hashOf(bits, leaf("77", long)))
			}
			s.tells("in a "+kind, want, top)
			s.tells("in a "+kind+", and as a root behind", want, top, none)
			s.tells("in a "+kind+", and as a root ahead", want, none, top)
			delete(s.src.blobs, none)
			s.refuses("in a "+kind+", and lost", api.ErrAbsent, 2, none, top)
			s.src.blobs[none] = "\x80"
			s.refuses("in a "+kind+", and told as the byte 128, which is no node", api.ErrNode, 2, none, top)
		}
	}
}

// loop tells a branch with this kid that has a hash of so few bits.
func loop(bits int, below, h api.Hash) string {
	for i := 0; ; i++ {
		if b := branch(fmt.Sprintf("%s %d", long, i), kid{3, by(below)}); hashOf(bits, b) == h {
			return b
		}
	}
}

// With few bits nodes may lead round: each is read once, and the row ends.
func TestRoundAndRound(t *testing.T) {
	for _, bits := range []int{8, 10, 12} {
		one, two := api.Hash{0x70}, api.Hash{0x20}
		s := newStand(t, bits)
		s.src.blobs[one] = loop(bits, one, one)
		s.tells("a node that leads to itself", []api.Hash{one}, one)
		s.tells("twice a root", []api.Hash{one}, one, one)
		s.src.blobs[one] = loop(bits, two, one)
		s.src.blobs[two] = loop(bits, one, two)
		s.tells("two that lead to one another", []api.Hash{one, two}, one)
		s.tells("two that lead to one another", []api.Hash{two, one}, two)
		s.tells("both as roots", []api.Hash{two, one}, two, one)
		top := s.lay(ext("1", by(two)))
		s.tells("from above", []api.Hash{top, two, one}, top)
	}
}

// A row that comes to all hashes of a narrow book.
func TestAllHashesOfANarrowBook(t *testing.T) {
	s := newStand(t, 8)
	var order []api.Hash
	h := api.Hash{}
	for range 256 {
		order = append(order, h)
		below := api.Hash{h[0]*37 + 11}
		s.src.blobs[h] = loop(8, below, h)
		h = below
	}
	s.tells("round the whole book", order, order[0])
}

// What a node is, and where it stands, is not asked: its bytes must hash to its hash, and be a node.
func TestPlacesAreNotLookedAt(t *testing.T) {
	s := newStand(t, 256)
	lay := func(encoding string) (api.Hash, string) {
		h := s.lay(encoding)
		return h, by(h)
	}
	odd, oddRef := lay(leaf("1", long))
	s.tells("a leaf of half a byte", []api.Hash{odd}, odd)
	short, shortRef := lay(leaf("12", "x"))
	s.tells("a short node as a root", []api.Hash{short}, short)
	top, _ := lay(branch("", kid{1, shortRef}, kid{2, oddRef}))
	s.tells("a short node by its hash in a branch", []api.Hash{top, short, odd}, top)
	s.tells("a short node in a branch and as a root", []api.Hash{short, top, odd}, short, top)
	over, overRef := lay(ext("12", shortRef))
	s.tells("a short leaf under an extension", []api.Hash{over, short}, over)
	twice, _ := lay(ext("12", overRef))
	s.tells("an extension under an extension", []api.Hash{twice, over, short}, twice)
	full, fullRef := lay(branch("value", kid{1, oddRef}))
	up, _ := lay(branch("", kid{7, fullRef}, kid{8, fullRef}))
	s.tells("a branch with a value at an odd place", []api.Hash{up, full, odd}, up)

	below, ref := lay(leaf(strings.Repeat("a", 64), long))
	want := []api.Hash{below}
	for i := range 150 {
		if i%2 == 0 {
			below, ref = lay(branch("", kid{i % 16, ref}, kid{(i + 1) % 16, leaf("", "v")}))
		} else {
			below, ref = lay(ext(strings.Repeat("b", 64), ref))
		}
		want = append([]api.Hash{below}, want...)
	}
	s.tells("a way of thousands of nibbles", want, below)
}

// A branch with sixteen hashes, one of them twice, is told in the order of its kids.
func TestAFullBranch(t *testing.T) {
	s := newStand(t, 256)
	var kids []kid
	var want []api.Hash
	for i := range 16 {
		h := s.lay(leaf("12", fmt.Sprint(long, i%15)))
		kids = append(kids, kid{i, by(h)})
		want = append(want, h)
	}
	top := s.lay(branch(strings.Repeat("v", 256), kids...))
	s.tells("sixteen kids", append([]api.Hash{top}, want[:15]...), top)
}

// The row is told by its hashes' bytes, high ones too, and by no less than all of them.
func TestTheAnswerRises(t *testing.T) {
	for _, bits := range []int{256, 64, 16} {
		s := newStand(t, bits)
		var roots []api.Hash
		for i := range 300 {
			roots = append(roots, s.lay(leaf("12", fmt.Sprint(long, i))))
		}
		got, _, e := s.mark("many roots", roots...)
		if e != api.OK || len(got) != len(union(roots)) || got[0][0] > 20 || got[len(got)-1][0] < 235 {
			t.Fatalf("21.1: %d hashes, %d", len(got), e)
		}
		for i := range got[1:] {
			if string(got[i][:]) >= string(got[i+1][:]) {
				t.Fatalf("21.1: %x is told ahead of %x", got[i], got[i+1])
			}
		}
	}
}

// counter is a source that has nothing, and counts how often it is asked.
type counter struct{ asked int }

func (c *counter) Node(api.Hash) ([]byte, api.Errno) {
	c.asked++
	return nil, api.ErrFull
}

func TestHandles(t *testing.T) {
	s := newStand(t, 256)
	top := garden(s)["top"]
	asked := &counter{}
	for _, roots := range [][]api.Hash{nil, {}, {top}, {emptyRoot(256)}, {top, {}}} {
		for _, c := range []struct {
			src  api.Source
			book *digest.Book
		}{{nil, s.book}, {asked, nil}, {nil, nil}} {
			l, e := sweep.Mark(c.src, c.book, roots...)
			if e != api.ErrHandle || len(l) != 0 || asked.asked != 0 {
				t.Errorf("21.1: %d hashes, %d, with %d read", len(l), e, asked.asked)
			}
		}
	}
	var none *hstore.Store // no nil source, but one that answers ErrHandle of itself
	if l, e := sweep.Mark(none, s.book, top); e != api.ErrHandle || len(l) != 0 {
		t.Errorf("R1: %d hashes, %d", len(l), e)
	}
	if l, e := sweep.Mark(asked, s.book, top); e != api.ErrFull || len(l) != 0 || asked.asked != 1 {
		t.Errorf("21.1: %d hashes, %d, with %d read", len(l), e, asked.asked)
	}
}

// A hash that nothing stands under, and the zero hash.
func TestNothingThere(t *testing.T) {
	s := newStand(t, 256)
	g := garden(s)
	s.refuses("a root of zeros", api.ErrAbsent, 1, api.Hash{})
	s.refuses("a root that nothing stands under", api.ErrAbsent, 1, key(7))
	s.refuses("behind one that is there", api.ErrAbsent, 2, g["low"], key(7))
	s.refuses("ahead of one that is there", api.ErrAbsent, 1, key(7), g["low"])
	s.refuses("ahead of what others lead to", api.ErrAbsent, 2, g["top"], key(7))
	s.refuses("the same one twice", api.ErrAbsent, 1, key(7), key(7))
}
