package fetch_test

import (
	"fmt"
	"math"
	"slices"
	"strings"
	"testing"

	"cairn/api"
	"cairn/fetch"
)

var _ api.Source = (*fetch.Fetch)(nil)

// grove is a trie's nodes of all kinds, by their names: "low" stands in "fork" and in "mid", "fork" in "over" and in "mid", "left" in
// "top" twice.
type grove struct {
	hashes map[string]api.Hash
	nodes  map[string]string
}

const all = "top over mid left fork low right"

func newGrove(bits int) grove {
	g := grove{map[string]api.Hash{}, map[string]string{}}
	name := func(name, encoding string) api.Hash {
		g.nodes[name] = encoding
		g.hashes[name] = hashOf(bits, encoding)
		return g.hashes[name]
	}
	low := name("low", leaf("123", long))
	right := name("right", leaf("45", long))
	fork := name("fork", branch(long, low, right))
	over := name("over", ext("678", fork))
	mid := name("mid", branch("", low, fork))
	left := name("left", leaf("9", long+long))
	name("top", branch("v", over, left, mid, left))
	return g
}

// by tells hashes by their names.
func (g grove) by(names string) []api.Hash {
	var out []api.Hash
	for _, name := range strings.Fields(names) {
		out = append(out, g.hashes[name])
	}
	return out
}

// texts tells nodes by their names.
func (g grove) texts(names string) []string {
	var out []string
	for _, name := range strings.Fields(names) {
		out = append(out, g.nodes[name])
	}
	return out
}

func TestNewRefuses(t *testing.T) {
	g := newGrove(256)
	for _, root := range []api.Hash{g.hashes["top"], emptyRoot(256), {}} {
		for _, have := range [][][]byte{nil, {}, {nil}, {[]byte(g.nodes["top"])}, {[]byte("rubbish"), nil}} {
			if f, e := fetch.New(nil, root, have...); f != nil || e != api.ErrHandle {
				t.Errorf("P25.2: %v, %d", f, e)
			}
		}
	}
}

func TestANilFetch(t *testing.T) {
	var none *fetch.Fetch
	g := newGrove(256)
	for _, n := range []int{-1, 0, 1, 2, math.MinInt, math.MaxInt} {
		if got := none.Wants(n); len(got) != 0 {
			t.Errorf("P25.4: Wants(%d) of nil: %x", n, got)
		}
	}
	for _, b := range slices.Concat(noBlobs(), noNodes(), g.texts(all)) {
		if e := none.Supply([]byte(b)); e != api.ErrHandle {
			t.Errorf("P25.3: Supply of nil: %d", e)
		}
	}
	for _, h := range []api.Hash{{}, key(1), g.hashes["top"], emptyRoot(256)} {
		if b, e := none.Node(h); b != nil || e != api.ErrHandle {
			t.Errorf("P25.4: Node of nil: %x, %d", b, e)
		}
	}
	if none.Done() || none.Len() != 0 {
		t.Errorf("P25.4: Done and Len of nil: %v, %d", none.Done(), none.Len())
	}
}

// At first just the root is wanted, whatever hash it is.
func TestTheRootIsWanted(t *testing.T) {
	for _, bits := range []int{8, 9, 40, 255, 256} {
		g := newGrove(bits)
		for _, root := range []api.Hash{g.hashes["top"], g.hashes["low"], key(1), {}, {31: 255}, {1, 31: 255}} {
			begin(t, bits, root).is("P25.1", 0, root)
		}
	}
}

// Of the empty trie nothing is wanted, whatever there is in have and whatever is sent.
func TestTheEmptyTrie(t *testing.T) {
	for _, bits := range []int{8, 12, 256} {
		root := emptyRoot(bits)
		g := newGrove(bits)
		others := append(g.texts(all), "\x80")
		if bits < 256 { // one of the same hash
			others = append(others, forged(bits, root, func(i int) string { return leaf("12", valued(i)) }))
		}
		for _, have := range [][]string{nil, others, append(noBlobs(), noNodes()...)} {
			w := begin(t, bits, root, have...)
			w.is("P25.1", 0)
			for _, b := range append(noNodes(), others...) {
				w.supplies("P25.1: the empty trie", b, api.ErrUnwanted, 0)
			}
			for _, b := range noBlobs() {
				w.supplies("P25.3: the empty trie", b, api.ErrInput, 0)
			}
			w.lacks("P25.4", root)
		}
	}
}

// Which root is the empty trie's, the book that is handed in tells.
func TestAnotherBook(t *testing.T) {
	begin(t, 40, emptyRoot(256)).is("P25.1: another book's", 0, emptyRoot(256))
	begin(t, 256, emptyRoot(40)).is("P25.1: another book's", 0, emptyRoot(40))
}

// What is in have is taken as far as it is wanted, and what it leads to likewise; the rest of the way is wanted.
func TestHave(t *testing.T) {
	g := newGrove(256)
	for _, c := range []struct{ have, wants, then string }{
		{"top", "over mid left", "top"},
		{"top over", "mid left fork", "top over"},
		{"top over fork", "mid left low right", "top over fork"},
		{"top fork", "over mid left", "top"},
		{"top fork low", "over mid left", "top"},
		{"top mid", "over left low fork", "top mid"},
		{"top mid fork low", "over left right", "top mid fork low"},
		{"over mid left fork low right", "top", ""},
		{"low right left", "top", ""},
		{all, "", all},
		{"top top left left mid", "over low fork", "top left mid"},
	} {
		for range 2 {
			w := begin(t, 256, g.hashes["top"], g.texts(c.have)...)
			w.is("P25.2: have of "+c.have, len(strings.Fields(c.then)), g.by(c.wants)...)
			for _, name := range strings.Fields(c.then) {
				w.has("P25.2: have of "+c.have, g.hashes[name], g.nodes[name])
			}
			there := strings.Fields(c.have) // and the other way round
			slices.Reverse(there)
			c.have = strings.Join(there, " ")
		}
	}
}

// The order in which strings stand in have does not matter.
func TestAnyOrderOfHave(t *testing.T) {
	g := newGrove(256)
	orders := 0
	var permute func(done, left []string)
	permute = func(done, left []string) {
		if len(left) == 0 {
			orders++
			w := begin(t, 256, g.hashes["top"], done...)
			w.is("P25.2: any order", 5, g.by("left low")...)
			return
		}
		for i := range left {
			permute(append(slices.Clone(done), left[i]), slices.Delete(slices.Clone(left), i, i+1))
		}
	}
	permute(nil, append(g.texts("top over mid fork right"), "rubbish"))
	if orders != 720 {
		t.Errorf("%d orders", orders)
	}
}

// What is no blob, no node, or not wanted, is left out.
func TestWhatIsLeftOutOfHave(t *testing.T) {
	g := newGrove(256)
	rubbish := slices.Concat(noBlobs(), noNodes(), []string{leaf("9", long), branch("", key(1), key(2)), "\x80"})
	w := begin(t, 256, g.hashes["top"], slices.Concat(rubbish, g.texts("over top"), rubbish)...)
	w.is("P25.2: rubbish", 2, g.by("mid left fork")...)
	for _, b := range rubbish {
		w.lacks("P25.2: rubbish", hashOf(256, b))
	}
	for _, b := range noNodes() { // the hash is wanted, and stays so
		begin(t, 256, hashOf(256, b), b, b).is("P25.2: wanted, and no node", 0, hashOf(256, b))
	}
	for _, b := range noBlobs() {
		begin(t, 256, hashOf(256, b), b).is("P25.2: wanted, and no blob", 0, hashOf(256, b))
	}
}

// What is in have is taken behind a later Supply too, as soon as it is wanted, and through others that are there.
func TestHaveBehindASupply(t *testing.T) {
	g := newGrove(256)
	w := begin(t, 256, g.hashes["top"], append(g.texts("right low mid left"), "rubbish")...)
	w.is("P25.2", 0, g.hashes["top"])
	w.supplies("P25.2: left and mid stand in top, low in mid", g.nodes["top"], api.OK, 4, g.by("over fork")...)
	w.supplies("P25.3: it was taken out of have", g.nodes["low"], api.ErrUnwanted, 4, g.by("over fork")...)
	w.supplies("P25.3: it is in have, but nothing leads to it yet", g.nodes["right"], api.ErrUnwanted, 4, g.by("over fork")...)
	w.supplies("P25.2: fork is wanted already", g.nodes["over"], api.OK, 5, g.by("fork")...)
	w.supplies("P25.2: right stands in fork", g.nodes["fork"], api.OK, 7)
	for name, b := range g.nodes {
		w.has("P25.2", g.hashes[name], b)
	}
}

// A whole trie in have: done at once, or as soon as the one that is missing is there, whichever it is.
func TestAWholeTrieInHave(t *testing.T) {
	g := newGrove(256)
	begin(t, 256, g.hashes["top"], g.texts(all)...).is("P25.2", 7)
	for missing, b := range g.nodes {
		var have []string
		for name, b := range g.nodes {
			if name != missing {
				have = append(have, b)
			}
		}
		slices.Sort(have)
		w := begin(t, 256, g.hashes["top"], have...)
		w.is("P25.2", w.f.Len(), g.hashes[missing])
		w.supplies("P25.2: the missing one", b, api.OK, 7)
	}
}

// Of several nodes with one hash the first one is taken; what is no node does not count.
func TestSeveralOfOneHash(t *testing.T) {
	for _, bits := range []int{8, 11} {
		low := leaf("123", long)
		h := hashOf(bits, low)
		l := []string{low}
		for _, path := range []string{"", "1", "77"} {
			l = append(l, forged(bits, h, func(i int) string { return leaf(path, valued(i)) }))
		}
		text := forged(bits, h, func(i int) string { return fmt.Sprint("no node ", i) })
		for i := range l {
			have := slices.Concat(l[i:], l[:i])
			begin(t, bits, h, have...).has("P25.2: the first of one hash", h, l[i])
			w := begin(t, bits, h, append([]string{text, text}, have...)...)
			w.has("P25.2: the first node of one hash", h, l[i])
			for _, b := range have {
				w.supplies("P25.3: it was taken", b, api.ErrUnwanted, 1)
			}
			top := branch("v", h)
			w = begin(t, bits, hashOf(bits, top), have...)
			w.supplies("P25.2: the first of one hash, behind a Supply", top, api.OK, 2)
			w.has("P25.2: the first of one hash, behind a Supply", h, l[i])
		}
	}
}

// A long way down in have, the lowest node first: all of it is taken at one stroke.
func TestALongWayInHave(t *testing.T) {
	const deep = 30000
	book := newBook(t, 256)
	l := []string{leaf("12", long)}
	for range deep {
		l = append(l, ext("1", book.Hash([]byte(l[len(l)-1]))))
	}
	have := make([][]byte, len(l))
	for i, b := range l {
		have[i] = []byte(b)
	}
	root := book.Hash(have[deep])
	if f, e := fetch.New(book, root, have...); e != api.OK || !f.Done() || f.Len() != deep+1 {
		t.Errorf("P25.2: %d are taken, %d", f.Len(), e)
	}
	f, e := fetch.New(book, root, have[:deep]...)
	if got := f.Wants(9); e != api.OK || !slices.Equal(got, []api.Hash{root}) || f.Len() != 0 {
		t.Errorf("P25.2: %.4x are wanted, %d", got, e)
	}
	if e := f.Supply(have[deep]); e != api.OK || !f.Done() || f.Len() != deep+1 {
		t.Errorf("P25.2: %d are taken, %d", f.Len(), e)
	}
}
