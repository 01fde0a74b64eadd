package hstore_test

import (
	"bytes"
	"slices"
	"strings"
	"testing"

	"cairn/api"
	"cairn/hstore"
)

func TestQuarantineRises(t *testing.T) {
	keys := []api.Hash{{200}, {}, {31: 1}, {1}, {0, 255}, {255, 31: 255}, {128}, {31: 255}, {127, 255}, {200, 1}}
	r := lay(t, 8, 256, 2)
	for i, k := range keys {
		r.want("P10.5", []op{node(k), fresh(k)}[i%2], refused(api.ErrNode))
		r.want("P10.5: it stands there once", fresh(k), refused(api.ErrNode))
	}
	got := r.stores[0].Quarantine()
	if len(got) != len(keys) || !slices.IsSortedFunc(got, func(a, b api.Hash) int { return bytes.Compare(a[:], b[:]) }) {
		t.Errorf("P10.8: the quarantine: %.4x", got)
	}
	for _, k := range keys {
		if !slices.Contains(got, k) {
			t.Errorf("P10.8: %x is not in the quarantine", k)
		}
	}
	was := len(r.d.Accesses())
	r.stores[0].Quarantine()
	r.stores[0].Cached()
	if len(r.d.Accesses()) != was {
		t.Errorf("P10.12: the lists make accesses")
	}
}

// filled is a rig whose first store has blobs in the cache, in the quarantine and in both.
func filled(t *testing.T) (r *rig, cached, bad, twice api.Hash) {
	r = lay(t, 8, 256, 4)
	for _, s := range []string{"one", "two", "three", "both"} {
		r.do("P10.6", put(s))
	}
	r.choose(choice(api.Drop, 0))
	r.do("P10.5", fresh(r.hash("both")))
	r.do("P10.5", fresh(r.hash("lost")))
	r.do("P10.5", fresh(r.hash("lost too")))
	return r, r.hash("two"), r.hash("lost"), r.hash("both")
}

func TestForgetOfSome(t *testing.T) {
	_, cached, bad, twice := filled(t)
	none := hashOf(256, "none of them")
	for _, hs := range [][]api.Hash{{cached}, {bad}, {twice}, {none}, {cached, bad}, {bad, twice, cached}, {twice, twice}, {none, cached, none, cached},
		{none, none}, {{}}, {cached, bad, twice, none}} {
		r, _, _, _ := filled(t)
		r.wantMade("P10.8", forget(hs...), reply{}, "")
		for _, h := range hs {
			if slices.Contains(r.stores[0].Cached(), h) || slices.Contains(r.stores[0].Quarantine(), h) {
				t.Errorf("P10.8: %x is there behind Forget", h)
			}
		}
		for _, o := range []op{put("four"), put("five"), node(cached), node(bad), node(twice), put("two"), forget(), node(twice)} {
			r.do("P10.8: behind Forget", o)
		}
	}
}

func TestForgetByName(t *testing.T) {
	r, cached, bad, twice := filled(t)
	one, three, too := r.hash("one"), r.hash("three"), r.hash("lost too")
	low, high := bad, too
	if bytes.Compare(bad[:], too[:]) > 0 {
		low, high = too, bad
	}
	order := []api.Hash{low, high, twice}
	slices.SortFunc(order, func(a, b api.Hash) int { return bytes.Compare(a[:], b[:]) })
	r.state("P10.8", list(one, cached, three, twice), list(order...))
	r.do("P10.8", forget(hashOf(256, "none of them")))
	r.state("P10.8: none that stand there", list(one, cached, three, twice), list(order...))
	r.do("P10.8", forget(cached))
	r.state("P10.8: out of the cache", list(one, three, twice), list(order...))
	r.do("P10.8", forget(twice))
	r.state("P10.8: out of both", list(one, three), list(low, high))
	r.do("P10.8", forget(too, one))
	r.state("P10.8: one out of each", list(three), list(bad))
	r.do("P10.6", put("two"))
	r.state("P10.3: what was forgotten comes as the youngest", list(three, cached), list(bad))
	r.do("P10.8", forget(three, cached, bad))
	r.state("P10.8: all by name", list(), list())
}

func TestForgetOfAll(t *testing.T) {
	for _, hs := range [][]api.Hash{nil, {}, make([]api.Hash, 0, 3)} {
		r, cached, bad, twice := filled(t)
		r.wantMade("P10.8, R4", forget(hs...), reply{}, "")
		r.state("P10.8", list(), list())
		r.wantMade("P10.8: again", forget(hs...), reply{}, "")
		r.wantMade("P10.8: the device is asked again", node(cached), told("two"), "get ")
		r.wantMade("P10.8: what is lost is lost still", node(bad), refused(api.ErrNode), "get ")
		r.wantMade("P10.8: the device is asked again", node(twice), told("both"), "get ")
		r.state("P10.8", list(cached, twice), list(bad))
		for _, s := range []string{"a", "b", "c"} {
			r.do("P10.6", put(s))
		}
		r.state("P10.3: the cache is as great as it was", list(twice, r.hash("a"), r.hash("b"), r.hash("c")), list(bad))
	}
}

func TestForgetOfManyHashes(t *testing.T) {
	r, cached, bad, twice := filled(t)
	many := make([]api.Hash, 0, 1<<16)
	for i := range cap(many) - 2 {
		many = append(many, api.Hash{byte(i), byte(i >> 8), 1})
	}
	many = append(many, cached, twice)
	r.do("P10.8", forget(many...))
	if got := r.stores[0].Quarantine(); len(got) != 2 || !slices.Contains(got, bad) || !slices.Contains(got, r.hash("lost too")) {
		t.Errorf("P10.8: the quarantine has %.4x", got)
	}
	if got := list(r.stores[0].Cached()...); got != list(r.hash("one"), r.hash("three")) {
		t.Errorf("P10.8: the cache has %s", got)
	}
}

func TestForgetFreesTheCache(t *testing.T) {
	r := lay(t, 16, 256, 2)
	r.do("P10.6", put("a"))
	r.do("P10.6", put("b"))
	r.do("P10.8", forget(r.hash("a")))
	r.do("P10.6", put("c"))
	r.state("P10.3: there is room, so none goes", list(r.hash("b"), r.hash("c")), list())
	r.do("P10.6", put("d"))
	r.state("P10.3", list(r.hash("c"), r.hash("d")), list())
	r.do("P10.8", forget(r.hash("d")))
	r.do("P10.6", put("a"))
	r.state("P10.3", list(r.hash("c"), r.hash("a")), list())
}

func TestForgetMakesAClashUnseen(t *testing.T) {
	two := clashing(8, 2, 3)
	h := hashOf(8, two[0])
	r := lay(t, 8, 8, 2)
	r.do("P10.6", put(two[0]))
	r.lose(h)
	r.want("P10.6", put(two[1]), refused(api.ErrClash))
	r.do("P10.8", forget(h))
	r.wantMade("P10.6: neither the cache nor the device has the other one", put(two[1]), wrote(h), "get put ")
}

// Two stores over one device and one book know of each other by the device alone.
func TestTwoStores(t *testing.T) {
	r := lay(t, 4, 256, 1, 2)
	x, y := r.hash("x"), r.hash("y")
	r.at(0, "P10.6", put("x"))
	if got := r.at(1, "P10.10", node(x)); got != told("x") {
		t.Errorf("P10.11: what another store has put: %v", got)
	}
	r.at(1, "P10.6", put("y"))
	r.raw(x, "altered")
	if got := r.at(0, "P10.5", fresh(x)); got != refused(api.ErrNode) {
		t.Errorf("P10.5: %v", got)
	}
	if len(r.stores[1].Quarantine()) != 0 || list(r.stores[1].Cached()...) != list(x, y) {
		t.Errorf("R5: the other store has learned: %x, %x", r.stores[1].Cached(), r.stores[1].Quarantine())
	}
	if got := r.at(1, "P10.7", mend("x")); got != refused(api.ErrUnwanted) {
		t.Errorf("P10.7: the other store waits: %v", got)
	}
	r.at(1, "P10.8", forget())
	if got := list(r.stores[0].Quarantine()...); got != list(x) {
		t.Errorf("R5: the other store has made this one forget: %s", got)
	}
	r.at(1, "P10.5", fresh(x))
	if got := r.at(1, "P10.7", mend("x")); got != (reply{}) {
		t.Errorf("P10.7: %v", got)
	}
	if got := list(r.stores[0].Quarantine()...); got != list(x) {
		t.Errorf("P10.7: the other store's mending has taken it out of this one's quarantine: %s", got)
	}
	if got := r.at(0, "P10.5", fresh(x)); got != told("x") || len(r.stores[0].Quarantine()) != 0 {
		t.Errorf("P10.5: mended by the other store: %v", got)
	}
}

func TestTwoStoresClash(t *testing.T) {
	two := clashing(8, 2, 1)
	h := hashOf(8, two[0])
	r := lay(t, 4, 8, 2, 2)
	r.at(0, "P10.6", put(two[0]))
	if got := r.at(1, "P10.6", put(two[1])); got != refused(api.ErrClash) {
		t.Errorf("P10.6: %v", got)
	}
	r.lose(h)
	if got := r.at(1, "P10.6", put(two[1])); got != wrote(h) {
		t.Errorf("P10.6: %v", got)
	}
	if a, b := r.at(0, "P10.4", node(h)), r.at(1, "P10.4", node(h)); a != told(two[0]) || b != told(two[1]) || r.book.Sound() {
		t.Errorf("P10.4: %v, %v", a, b)
	}
}

func TestWorkedExamples(t *testing.T) {
	r := lay(t, 64, 256)
	for _, c := range []struct {
		dev   bool
		cache int
		e     api.Errno
	}{{false, 0, api.ErrHandle}, {true, 257, api.ErrCache}, {true, 0, api.OK}} {
		d := r.d
		if !c.dev {
			d = nil
		}
		if s, e := hstore.New(d, r.book, c.cache); e != c.e || (s != nil) != (e == api.OK) {
			t.Errorf("example 1: a cache of %d: %d", c.cache, e)
		}
	}
	r.add(2)
	x, y, z := r.hash("x"), r.hash("y"), r.hash("z")
	r.want("example 2", put("x"), wrote(x))
	r.want("example 2", put("y"), wrote(y))
	r.want("example 2", put("z"), wrote(z))
	r.state("example 2", list(y, z), list())
	r.wantMade("example 2", node(y), told("y"), "")
	r.state("example 2", list(y, z), list())
	r.wantMade("example 2", node(x), told("x"), "get ")
	r.state("example 2", list(z, x), list())

	r.raw(r.hash("q"), "q")
	r.choose(choice(api.Alter, 0))
	r.want("example 3", node(r.hash("q")), refused(api.ErrNode))
	r.state("example 3", list(z, x), list(r.hash("q")))
	r.want("example 3", node(r.hash("q")), told("q"))
	r.state("example 3", list(x, r.hash("q")), list())

	r = lay(t, 64, 256, 2)
	r.want("example 4", node(x), refused(api.ErrNode))
	r.state("example 4", list(), list(x))
	r.want("example 4", mend("x"), reply{})
	r.state("example 4", list(), list())
	r.want("example 4", mend("x"), refused(api.ErrUnwanted))

	r = lay(t, 64, 256, 2)
	r.want("example 5", put(""), refused(api.ErrInput))
	r.want("example 5", put(strings.Repeat("x", 1025)), refused(api.ErrInput))
	r.want("example 5", put("x"), wrote(x))
	r.wantMade("example 5", put("x"), wrote(x), "get ")
	r.raw(x, "other bytes")
	r.wantMade("example 5", put("x"), wrote(x), "get put ")
	if b, e := r.d.Get(x); string(b) != "x" || e != api.OK {
		t.Errorf("example 5: %q, %d", b, e)
	}
}
