package fetch_test

import (
	"fmt"
	"math/rand"
	"slices"
	"sync"
	"testing"

	"cairn/api"
	"cairn/fetch"
)

// Strings of have that lie in one memory, each in the spare room of the one ahead: none is changed, and none is kept as it is.
func TestHaveInOneMemory(t *testing.T) {
	g := newGrove(256)
	var memory []byte
	var ends []int
	names := []string{"left", "low", "fork", "right", "mid"}
	for _, b := range g.texts("left low fork right mid") {
		memory = append(memory, b...)
		ends = append(ends, len(memory))
	}
	have := make([][]byte, len(ends))
	at := 0
	for i, end := range ends {
		have[i] = memory[at:end]
		at = end
	}
	was, book := string(memory), newBook(t, 256)
	f, e := fetch.New(book, g.hashes["top"], have...)
	if e != api.OK || string(memory) != was {
		t.Fatalf("R3: what was handed in is changed, %d", e)
	}
	fill(memory, 0x66)
	clear(have)
	top := roomy(g.nodes["top"])
	if e := f.Supply(top); e != api.OK || whole(top) != whole(roomy(g.nodes["top"])) {
		t.Fatalf("R3: what was handed in is changed, %d", e)
	}
	fill(top, 0x66)
	for _, name := range append(names, "top") {
		if b, e := f.Node(g.hashes[name]); e != api.OK || string(b) != g.nodes[name] {
			t.Errorf("R3: what was handed in is kept: %s: %.8x, %d", name, b, e)
		}
	}
}

// One string in have many times, and supplied as it stands there: what one call hands out of it is no other one's.
func TestOneStringInTwoFetches(t *testing.T) {
	g := newGrove(256)
	low := []byte(g.nodes["low"])
	book := newBook(t, 256)
	one, _ := fetch.New(book, g.hashes["low"], low, low)
	two, _ := fetch.New(book, g.hashes["low"], low)
	three, _ := fetch.New(book, g.hashes["low"])
	three.Supply(low)
	for _, f := range []*fetch.Fetch{one, two, three} {
		b, _ := f.Node(g.hashes["low"])
		c, _ := f.Node(g.hashes["low"])
		fill(b, 0x55)
		if string(c) != g.nodes["low"] || string(low) != g.nodes["low"] {
			t.Errorf("R3: two lists share memory")
		}
		fill(c, 0x44)
	}
	for _, f := range []*fetch.Fetch{one, two, three} {
		if b, e := f.Node(g.hashes["low"]); e != api.OK || string(b) != g.nodes["low"] {
			t.Errorf("R3: whoever writes into an answer changes the next one: %.8x, %d", b, e)
		}
	}
}

// What was handed out stays as it is, whatever is called then.
func TestAnswersStay(t *testing.T) {
	g := newGrove(256)
	w := begin(t, 256, g.hashes["top"], g.nodes["fork"])
	first := w.f.Wants(9)
	w.supply(g.nodes["top"])
	second, top := w.f.Wants(9), g.nodes["top"]
	b, _ := w.f.Node(g.hashes["top"])
	third := w.f.Wants(2)
	for _, b := range g.texts("over mid left low right") {
		w.supply(b)
	}
	w.is("P25.6", 7)
	if !slices.Equal(first, g.by("top")) || !slices.Equal(second, rising(g.by("over mid left"))) || !slices.Equal(third, second[:2]) || string(b) != top {
		t.Errorf("R3: an answer has changed behind later calls")
	}
	third = third[:cap(third)]
	clear(third)
	if !slices.Equal(second, rising(g.by("over mid left"))) {
		t.Errorf("R3: two answers share memory")
	}
}

// No strings, in whatever form.
func TestNilAndEmptyAreOne(t *testing.T) {
	g := newGrove(256)
	book := newBook(t, 256)
	for _, have := range [][][]byte{nil, {}, {nil}, {{}, nil, make([]byte, 0, 9)}} {
		f, e := fetch.New(book, g.hashes["low"], have...)
		if e != api.OK || f.Len() != 0 || !slices.Equal(f.Wants(9), g.by("low")) {
			t.Errorf("R4: %d", e)
		}
	}
}

// What was refused changes nothing, however often it comes.
func TestRefusedChangesNothing(t *testing.T) {
	g := newGrove(256)
	text := "no node"
	top := branch("", hashOf(256, text), g.hashes["over"])
	w := begin(t, 256, hashOf(256, top), g.nodes["fork"])
	for range 3 {
		for _, b := range []string{"", noBlobs()[1], g.nodes["over"], g.nodes["fork"], text} {
			w.supplies("R2", b, w.m.supply(b), 0, hashOf(256, top))
		}
	}
	w.supply(top)
	for range 3 {
		w.supplies("R2", "", api.ErrInput, 1, hashOf(256, text), g.hashes["over"])
		w.supplies("R2", text, api.ErrShape, 1, hashOf(256, text), g.hashes["over"])
		w.supplies("R2", g.nodes["fork"], api.ErrUnwanted, 1, hashOf(256, text), g.hashes["over"])
		w.supplies("R2", top, api.ErrUnwanted, 1, hashOf(256, text), g.hashes["over"])
	}
}

// An answer hangs on what the fetch has been through, not on what its book, or another fetch over that book, has.
func TestPastsThatDoNotCount(t *testing.T) {
	g := newGrove(256)
	book := newBook(t, 256)
	for _, b := range append(g.texts(all), "", "\x80", long) {
		book.Hash([]byte(b))
	}
	one := beginWith(t, 256, book, g.hashes["top"], g.texts("over fork")...)
	two := beginWith(t, 256, book, g.hashes["top"])
	one.supplies("R5", g.nodes["top"], api.OK, 3, g.by("mid left low right")...)
	two.is("R5", 0, g.hashes["top"])
	two.supplies("R5", g.nodes["top"], api.OK, 1, g.by("over mid left")...)
	two.supplies("R5", g.nodes["left"], api.OK, 2, g.by("over mid")...)
	one.is("R5", 3, g.by("mid left low right")...)
	one.lacks("R5", g.hashes["left"])
	two.lacks("R5", g.hashes["fork"])
}

// The book has hashed whatever was held against a hash, and coded nothing (that the tour looks at).
func TestWhatTheBookKnows(t *testing.T) {
	g := newGrove(256)
	w := begin(t, 256, g.hashes["top"], g.texts("over mid fork")...)
	text := "no node"
	top := branch("v", hashOf(256, text))
	refused := []string{g.nodes["low"], "rubbish", noNodes()[4]}
	for _, b := range refused {
		w.supplies("P25.3", b, api.ErrUnwanted, 0, g.hashes["top"])
	}
	w.supplies("P25.3", g.nodes["top"], api.OK, 4, g.by("left low right")...)
	for _, b := range append(refused, g.nodes["top"], g.nodes["over"], g.nodes["mid"], g.nodes["fork"], "\x80") {
		if !hasHashed(w.book, b) {
			t.Errorf("R7: %.8x was held against a hash, and never hashed", b)
		}
	}
	w = begin(t, 256, hashOf(256, top))
	w.supply(top)
	w.supply(text)
	for _, b := range []string{top, text} {
		if !hasHashed(w.book, b) {
			t.Errorf("R7: %.8x was held against a hash, and never hashed", b)
		}
	}
}

// The two nodes of one hash, of which one is taken and the other one sent, are a clash that the book knows.
func TestTheBookKnowsAClash(t *testing.T) {
	const bits = 8
	one := leaf("12", long)
	h := hashOf(bits, one)
	two := forged(bits, h, func(i int) string { return leaf("34", valued(i)) })
	w := begin(t, bits, h, one)
	w.supplies("P25.3", two, api.ErrUnwanted, 1)
	clash := func(p api.Pair) bool {
		return string(p.A) == one && string(p.B) == two || string(p.A) == two && string(p.B) == one
	}
	if !slices.ContainsFunc(w.book.Clashes(), clash) {
		t.Errorf("R7: the book does not know of the clash")
	}
}

// Fetches of their own may be filled with one book at one time: each comes to the same.
func TestSideBySide(t *testing.T) {
	book := newBook(t, 256)
	rnd := rand.New(rand.NewSource(262))
	m := trieOf(t, book, someMap(rnd, 40))
	for len(m.keys) < 12 {
		m = trieOf(t, book, someMap(rnd, 40))
	}
	waste := rubbish(rnd, m)
	said := make([]string, 8)
	var all sync.WaitGroup
	for i := range said {
		all.Go(func() {
			rnd := rand.New(rand.NewSource(7))
			for range 20 {
				f, _ := fetch.New(book, m.root, []byte(some(rnd, m.texts())), []byte(some(rnd, waste)))
				for !f.Done() {
					h := some(rnd, f.Wants(1+rnd.Intn(9)))
					e := f.Supply([]byte(some(rnd, waste)))
					said[i] += fmt.Sprint(e, f.Supply([]byte(m.nodes[h])), f.Len(), f.Wants(9))
				}
			}
		})
	}
	all.Wait()
	for i := range said {
		if said[i] != said[0] || said[i] == "" || !book.Sound() {
			t.Fatalf("R5: the same was done, and the answer is another")
		}
	}
}
