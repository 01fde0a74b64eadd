package fetch_test

import (
	"fmt"
	"math"
	"slices"
	"strings"
	"testing"

	"cairn/api"
	"cairn/fetch"
)

// No blob: refused as such, be its hash wanted or not.
func TestSupplyOfNoBlob(t *testing.T) {
	for _, b := range noBlobs() {
		h := hashOf(256, b)
		begin(t, 256, h).supplies("P25.3: wanted", b, api.ErrInput, 0, h)
		begin(t, 256, key(1)).supplies("P25.3: not wanted", b, api.ErrInput, 0, key(1))
	}
	w := begin(t, 256, hashOf(256, ""))
	for _, none := range [][]byte{nil, {}, make([]byte, 0, 9)} {
		if e := w.f.Supply(none); e != api.ErrInput {
			t.Errorf("R4: %d", e)
		}
	}
	w.look()
}

// Blobs that are no nodes: nobody wants them, or their hash is wanted, and is wanted still behind them, however often they come.
func TestSupplyOfNoNode(t *testing.T) {
	for _, b := range noNodes() {
		begin(t, 256, key(1)).supplies("P25.3: not wanted", b, api.ErrUnwanted, 0, key(1))
		h := hashOf(256, b)
		w := begin(t, 256, h)
		for range 3 {
			w.supplies("P25.3: wanted, and no node", b, api.ErrShape, 0, h)
		}
		low := leaf("123", long)
		top := branch("", h, hashOf(256, low))
		w = begin(t, 256, hashOf(256, top))
		w.supply(top)
		w.supplies("P25.3: wanted, and no node", b, api.ErrShape, 1, h, hashOf(256, low))
		w.supplies("P25.3: another one", low, api.OK, 2, h)
		w.supplies("P25.3: wanted, and no node", b, api.ErrShape, 2, h)
	}
}

// Bytes of every length, wanted or not.
func TestSupplyOfEachLength(t *testing.T) {
	book := newBook(t, 256)
	for size := range api.MaxNode + 9 {
		for _, x := range []string{"\x00", "\x80", "\xc0", "\xf9"} {
			b := []byte(strings.Repeat(x, size))
			want, unasked := api.ErrShape, api.ErrUnwanted
			if size == 0 || size > api.MaxNode {
				want, unasked = api.ErrInput, api.ErrInput
			}
			h := book.Hash(b)
			root := h
			if string(b) == "\x80" { // the empty trie's root is never wanted as a root
				root, want = key(1), api.ErrUnwanted
			}
			f, _ := fetch.New(book, root)
			if e := f.Supply(b); e != want || f.Len() != 0 || !slices.Equal(f.Wants(2), []api.Hash{root}) {
				t.Fatalf("P25.3: %d times %x, wanted: %d", size, x, e)
			}
			f, _ = fetch.New(book, key(1))
			if e := f.Supply(b); e != unasked || f.Len() != 0 {
				t.Fatalf("P25.3: %d times %x, not wanted: %d", size, x, e)
			}
		}
	}
}

// Nodes of every length that a leaf can have, and the greatest one that there is.
func TestSupplyOfNodesOfEachLength(t *testing.T) {
	kids := make([]api.Hash, 16)
	for i := range kids {
		kids[i] = key(byte(i + 1))
	}
	greatest := branch(strings.Repeat("v", api.MaxValue), kids...)
	if len(greatest) != 790 {
		t.Errorf("the greatest node has %d bytes", len(greatest))
	}
	begin(t, 256, hashOf(256, greatest)).supplies("P25.3: the greatest node", greatest, api.OK, 1, kids...)
	for size := range api.MaxValue {
		b := leaf("12", strings.Repeat("v", size+1))
		w := begin(t, 256, hashOf(256, b))
		w.supplies("P25.3: a leaf", b, api.OK, 1)
		w.has("P25.3: a leaf", hashOf(256, b), b)
	}
}

// A node of fewer bytes than one that stands by its hash has is taken where its hash is wanted: of its length nothing is said.
func TestSupplyOfAShortNode(t *testing.T) {
	b := leaf("12", "v")
	h := hashOf(256, b)
	top := branch("", h, key(1))
	w := begin(t, 256, hashOf(256, top))
	w.supplies("P25.1", top, api.OK, 1, h, key(1))
	w.supplies("P25.3: a short one", b, api.OK, 2, key(1))
}

// The order of the errors, each ahead of those behind it.
func TestTheOrderOfErrors(t *testing.T) {
	const bits = 8
	top := branch("v", key(1))
	h := hashOf(bits, top)
	text := forged(bits, h, func(i int) string { return fmt.Sprint("no node ", i) })
	long := forged(bits, h, func(i int) string { return strings.Repeat("x", api.MaxNode) + fmt.Sprint(i) })
	var none *fetch.Fetch
	for _, b := range []string{"", long, text, top} {
		if e := none.Supply([]byte(b)); e != api.ErrHandle {
			t.Errorf("P25.3: ErrHandle is first: %d", e)
		}
	}
	w := begin(t, bits, h)
	w.supplies("P25.3: ErrInput ahead of ErrShape", long, api.ErrInput, 0, h)
	w.supplies("P25.3: ErrShape", text, api.ErrShape, 0, h)
	w.supplies("P25.3: none", top, api.OK, 1, key(1))
	w.supplies("P25.3: ErrInput ahead of ErrUnwanted", long, api.ErrInput, 1, key(1))
	w.supplies("P25.3: ErrUnwanted ahead of ErrShape", text, api.ErrUnwanted, 1, key(1))
	w.supplies("P25.3: taken already", top, api.ErrUnwanted, 1, key(1))
}

// Once around the grove: what each node leads to is wanted once, unless it is or was already.
func TestEachIsWantedOnce(t *testing.T) {
	g := newGrove(256)
	for _, c := range []struct{ order, wants string }{
		{"top over fork low right mid left", "over mid left, mid left fork, mid left low right, mid left right, mid left, left, "},
		{"top mid low fork right over left", "over mid left, over left low fork, over left fork, over left right, over left, left, "},
		{"top left mid over low fork right", "over mid left, over mid, over low fork, low fork, fork, right, "},
		{"top over mid fork low right left", "over mid left, mid left fork, left low fork, left low right, left right, left, "},
	} {
		w := begin(t, 256, g.hashes["top"])
		wants := strings.Split(c.wants, ", ")
		for i, name := range strings.Fields(c.order) {
			w.supplies("P25.1: "+name, g.nodes[name], api.OK, i+1, g.by(wants[i])...)
			w.has("P25.4: "+name, g.hashes[name], g.nodes[name])
			for _, name := range strings.Fields(wants[i]) {
				w.lacks("P25.4: "+name, g.hashes[name])
			}
			w.supplies("P25.3: again", g.nodes[name], api.ErrUnwanted, i+1, g.by(wants[i])...)
		}
	}
}

// A node that nothing leads to yet is not taken, though something would lead to it later.
func TestTooEarly(t *testing.T) {
	g := newGrove(256)
	w := begin(t, 256, g.hashes["top"])
	for _, name := range strings.Fields("over mid left fork low right") {
		w.supplies("P25.3: too early", g.nodes[name], api.ErrUnwanted, 0, g.hashes["top"])
	}
	w.supply(g.nodes["top"])
	w.supplies("P25.3: too early", g.nodes["low"], api.ErrUnwanted, 1, g.by("over mid left")...)
	w.supplies("P25.3: not kept from then", g.nodes["mid"], api.OK, 2, g.by("over left low fork")...)
}

// Nodes that lead to their own hash, to one another, or to what was taken: what was taken is not wanted again.
func TestRounds(t *testing.T) {
	const bits = 8
	one, two := api.Hash{1}, api.Hash{2}
	to := func(own api.Hash, kids ...api.Hash) string {
		return forged(bits, own, func(i int) string { return branch(valued(i), kids...) })
	}
	w := begin(t, bits, one)
	w.supplies("P25.1: to itself alone", to(one, one), api.OK, 1)
	w = begin(t, bits, one)
	w.supplies("P25.1: to itself, twice, and to another", to(one, one, two, one), api.OK, 1, two)
	w.supplies("P25.1: back, and to itself", to(two, one, two), api.OK, 2)
	w = begin(t, bits, one, to(two, one, two, one), to(one, two))
	w.is("P25.1: to one another, in have", 2)
	w = begin(t, bits, one)
	over := forged(bits, one, func(i int) string { return ext(fmt.Sprint(i), one) })
	w.supplies("P25.1: an extension to itself", over, api.OK, 1)
}

// What a node leads to is wanted, whatever hash it is: that of zeros, the empty trie's too.
func TestWhateverHashItIs(t *testing.T) {
	for _, bits := range []int{8, 256} {
		empty := emptyRoot(bits)
		top := branch("", api.Hash{}, empty, api.Hash{31: 1})
		w := begin(t, bits, hashOf(bits, top))
		w.supplies("P25.1", top, api.OK, 1, api.Hash{}, empty, api.Hash{31: 1})
		w.supplies("P25.3: no node", "\x80", api.ErrShape, 1, api.Hash{}, empty, api.Hash{31: 1})
		if bits == 8 {
			b := forged(bits, empty, func(i int) string { return leaf("12", valued(i)) })
			w.supplies("P25.3: a node with this hash", b, api.OK, 2, api.Hash{}, api.Hash{31: 1})
		}
	}
	over := ext("1", emptyRoot(256))
	begin(t, 256, hashOf(256, over)).supplies("P25.1", over, api.OK, 1, emptyRoot(256))
}

// What stands whole in a node is none of its hashes.
func TestWhatStandsWhole(t *testing.T) {
	n := api.Node{Kind: api.Branch, Full: true, Value: []byte("v")}
	n.Kids[2] = byHash(key(9))
	n.Kids[5] = api.Ref{Kind: api.RefNode, Node: []byte(leaf("12", "whole"))}
	b := encoded(n)
	w := begin(t, 256, hashOf(256, b), leaf("12", "whole"))
	w.supplies("P25.1", b, api.OK, 1, key(9))
	w.lacks("P25.2: never wanted", hashOf(256, leaf("12", "whole")))
}

// The least n of the wanted hashes, by their bytes, whatever the order of the kids.
func TestWants(t *testing.T) {
	kids := []api.Hash{
		{200}, {3, 1}, {31: 1}, {3}, {255, 255}, {3, 31: 1}, {}, {127}, {128}, {3, 0, 7}, {255}, {16: 1}, {16: 1, 31: 255}, {3, 1, 31: 9}, {129}, {1},
	}
	want := []api.Hash{
		{}, {31: 1}, {16: 1}, {16: 1, 31: 255}, {1}, {3}, {3, 31: 1}, {3, 0, 7}, {3, 1}, {3, 1, 31: 9}, {127}, {128}, {129}, {200}, {255}, {255, 255},
	}
	top := branch("", kids...)
	w := begin(t, 256, hashOf(256, top))
	w.supplies("P25.4", top, api.OK, 1, kids...)
	for n := -3; n < 20; n++ {
		if got := w.f.Wants(n); !slices.Equal(got, want[:min(max(n, 0), 16)]) {
			t.Errorf("P25.4: Wants(%d) = %x", n, got)
		}
	}
	for _, n := range []int{math.MinInt, math.MinInt32, -1 << 31, 0} {
		if got := w.f.Wants(n); len(got) != 0 {
			t.Errorf("P25.4: Wants(%d) = %x", n, got)
		}
	}
	for _, n := range []int{1 << 31, 1<<31 - 1, math.MaxInt} {
		if got := w.f.Wants(n); !slices.Equal(got, want) {
			t.Errorf("P25.4: Wants(%d) = %x", n, got)
		}
	}
}
