package store_test

import (
	"slices"
	"strings"
	"testing"

	"cairn/api"
	"cairn/media"
)

// A pass begins, goes on from call to call, comes to its end, and begins anew with the next call.
func TestScrub(t *testing.T) {
	g := layGarden(t, 64, 60000, 8)
	for range 3 {
		g.wants("23.10", 0, scrubs(1), api.Pass{Seen: 1}, "reg get")
		g.wants("23.10", 0, scrubs(3), api.Pass{Seen: 4}, "reg get get get")
		g.wants("23.10", 0, scrubs(4), api.Pass{Seen: 8, Done: true}, "reg get get get get")
		g.wants("23.10", 0, scrubs(4096), api.Pass{Seen: 8, Done: true}, words("reg", times(8, "get")))
		g.wants("23.10", 0, scrubs(8), api.Pass{Seen: 8, Done: true}, words("reg", times(8, "get")))
		g.wants("23.10", 0, scrubs(7), api.Pass{Seen: 7}, words("reg", times(7, "get")))
		for _, n := range []int{0, -1, 4097} {
			g.refuses("23.10", 0, scrubs(n), api.ErrInput, "")
		}
		g.wants("23.10", 0, scrubs(9), api.Pass{Seen: 8, Done: true}, "reg get")
	}
	r := roomy(t)
	r.opens(8)
	for _, n := range []int{1, 4096} {
		r.wants("23.10: the empty trie", 0, scrubs(n), api.Pass{Done: true}, "reg")
	}
	r.does(0, lays("k", "v"), commit())
	r.wants("23.10: over the committed root", 0, scrubs(1), api.Pass{Seen: 1, Done: true}, "reg get")
}

// All calls but a commit leave a pass as it is.
func TestWhatLeavesAPass(t *testing.T) {
	for _, a := range append(every(), wrong()...) {
		if a.commits || strings.HasPrefix(a.name, "Scrub(1)") {
			continue
		}
		g := layGarden(t, 64, 60000, 8)
		g.does(0, scrubs(3))
		g.do(0, a)
		g.wants("23.10: behind "+a.name, 0, scrubs(2), api.Pass{Seen: 5}, "reg get get")
	}
}

// What a pass finds bad stands in the quarantine, and is repaired by its true bytes alone.
func TestScrubAndRepair(t *testing.T) {
	for _, cache := range []int{0, 8} {
		g := layGarden(t, 64, 60000, cache)
		g.aside("two are lost, one altered", func(d *media.Device) {
			d.Delete(g.hashes["b"])
			d.Delete(g.hashes["fork"])
			d.Put(g.hashes["twig"], []byte("altered"))
		})
		g.wants("23.10", 0, scrubs(9), api.Pass{Seen: 4, Bad: 2, Done: true}, "reg get get get- get")
		g.is("23.11", 0, state{count: 2, seq: 1, cached: cache, quarantine: 2}, g.hashes["top"], false)
		for _, b := range []string{"", "\x80", g.nodes["twig"][1:], g.nodes["twig"] + "\x00", strings.Repeat("x", 1025)} {
			g.refuses("23.10: no node", 0, repair(b), api.ErrShape, "reg")
		}
		for _, b := range []string{g.nodes["b"], g.nodes["top"], leaf("", "v")} {
			g.refuses("23.10: nobody waits for it", 0, repair(b), api.ErrUnwanted, "reg")
		}
		g.wants("23.10", 0, repair(g.nodes["twig"]), done{}, "reg put")
		g.refuses("23.10: again", 0, repair(g.nodes["twig"]), api.ErrUnwanted, "reg")
		g.wants("23.10", 0, repair(g.nodes["fork"]), done{}, "reg put")
		g.wants("23.10: a level further down", 0, scrubs(9), api.Pass{Seen: 8, Bad: 1, Done: true}, words("reg", times(7, "get"), "get-"))
		g.wants("23.10", 0, repair(g.nodes["b"]), done{}, "reg put")
		g.wants("23.10: clean", 0, scrubs(9), api.Pass{Seen: 8, Done: true}, words("reg", times(8, "get")))
		g.is("W5", 0, state{count: 2, seq: 1, cached: cache}, g.hashes["top"], false)
		g.does(0, scan(all, 9), root())
	}
}

// The errors of Repair, as the layers below say them.
func TestRepairRefused(t *testing.T) {
	g := layGarden(t, 8, 60000, 0)
	g.aside("a leaf is lost, a stray has its slot", func(d *media.Device) {
		d.Delete(g.hashes["c"])
		d.Put(api.Hash{1}, []byte("stray"))
	})
	g.refuses("23.4", 0, get("\x21"), api.ErrNode, "reg get get get-")
	for range 2 {
		g.refuses("23.10: no slot", 0, repair(g.nodes["c"]), api.ErrFull, "reg put-")
		g.is("23.10: no slot", 0, state{count: 2, seq: 1, quarantine: 1}, g.hashes["top"], false)
	}
	g.refuses("23.10: the leaf can't be read", 0, sweeps(), api.ErrNode, words("reg", times(4, "get"), "get-"))
	g.aside("the stray goes", func(d *media.Device) { d.Delete(api.Hash{1}) })
	g.choose(honest(1, choice(api.Drop, 0))...)
	g.wants("23.10: what is dropped is told as done", 0, repair(g.nodes["c"]), done{}, "reg put")
	g.refuses("23.4", 0, get("\x21"), api.ErrNode, "reg get get get-")
	g.choose(honest(1, choice(api.Torn, 3))...)
	g.refuses("23.3", 0, repair(g.nodes["c"]), api.ErrDown, "reg put-")
	g.refuses("23.3", 0, repair(g.nodes["c"]), api.ErrFailed, "")
	who := g.up().opens(0)
	g.refuses("23.10: another store waits for nothing", who, repair(g.nodes["c"]), api.ErrUnwanted, "reg")
	g.refuses("23.4", who, get("\x21"), api.ErrNode, "reg get get get")
	g.wants("23.10", who, repair(g.nodes["c"]), done{}, "reg put")
	g.does(who, get("\x21"))

	one, two := clashing()
	r := lay(t, 9, 60000, 8, 256)
	r.opens(4)
	r.does(0, lays("k", one), commit())
	r.choose(honest(1, choice(api.Drop, 0))...)
	r.wants("23.10", 0, scrubs(1), api.Pass{Seen: 1, Bad: 1, Done: true}, "reg get-")
	r.refuses("23.10: the cache has another one with that hash", 0, repair(leaf("6b", two)), api.ErrClash, "reg")
	r.does(0, repair(leaf("6b", one)))
}

// A sweep keeps what the committed root leads to, and nothing else: neither what an earlier map had, nor what a refused commit has
// written, nor strays. It leaves batch, pass, root and keys.
func TestSweep(t *testing.T) {
	g := layGarden(t, 14, 60000, 20)
	g.does(0, lays("\x22\x33", long+"1"), commit(), scrubs(2))
	g.aside("strays", func(d *media.Device) {
		d.Put(api.Hash{1}, []byte("stray"))
		d.Put(api.Hash{255}, []byte("stray"))
	})
	drops := choice(api.Drop, 0)
	g.does(0, lays("\x22\x33", long+"2"), lays("", "E"))
	g.choose(honest(6, drops, drops, drops, drops, drops)...)
	g.refuses("23.8", 0, commit(), api.ErrFull, "reg get- put get- put- list delete delete delete delete delete get- put-")
	// All those on the device that the cache had and whose deleting was answered OK have left it.
	g.is("23.11", 0, state{count: 3, seq: 2, staged: 2, cached: 9}, hashOf(256, renewed(long + "1")[0]), false)
	live := append(g.by("over twig a b c"), hashesOf(renewed(long+"1")...)...)
	g.wants("23.10", 0, sweeps(), api.Swept{Live: 8, Deleted: 6}, words("reg list", times(6, "delete")))
	g.has("23.10", live...)
	g.is("23.10", 0, state{count: 3, seq: 2, staged: 2, cached: 8}, hashOf(256, renewed(long + "1")[0]), false)
	g.wants("23.10: again", 0, sweeps(), api.Swept{Live: 8}, "reg list")
	g.wants("23.10: the pass goes on", 0, scrubs(1), api.Pass{Seen: 3}, "reg get")
	g.does(0, scan(all, 9), root(), get("\x22\x33"))
	g.does(0, commit(), scan(all, 9))

	r := roomy(t)
	r.opens(0)
	r.aside("strays", func(d *media.Device) {
		d.Put(api.Hash{1}, []byte("stray"))
		d.Put(emptyRoot(256), []byte("\x80"))
	})
	r.wants("23.10: the empty trie", 0, sweeps(), api.Swept{Deleted: 2}, "reg list delete delete")
}

// A sweep over a trie of which a node can't be read deletes nothing; one that a crash ends fails the store.
func TestSweepRefused(t *testing.T) {
	g := layGarden(t, 64, 60000, 0)
	g.does(0, lays("\x22\x33", long+"1"), commit())
	was := g.d.Media()
	g.choose(honest(5, choice(api.Alter, 7))...)
	g.refuses("23.10", 0, sweeps(), api.ErrNode, words("reg", times(5, "get")))
	if !sameMedia(g.d.Media(), was) || g.failed(0) {
		t.Errorf("23.10: a refused sweep has done something")
	}
	g.choose(honest(11, choice(api.After, 0))...)
	g.refuses("23.10", 0, sweeps(), api.ErrDown, words("reg", times(8, "get"), "list delete delete-"))
	g.refuses("23.3", 0, sweeps(), api.ErrFailed, "")
	who := g.up().opens(0)
	g.does(who, scan(all, 9))
	g.wants("23.10: the rest", who, sweeps(), api.Swept{Live: 8, Deleted: 1}, words("reg", times(8, "get"), "list delete"))
}

// Neither a repair, whatever it is handed, nor a scrub nor a sweep changes what a key has, or the root.
func TestCareChangesNoKey(t *testing.T) {
	g := layGarden(t, 64, 60000, 0)
	g.does(0, lays("k", "v"))
	whatever := []string{"", "\x80", leaf("", "v"), leaf("1111", long), g.nodes["top"], branch("f", kid{1, leaf("", "x")}), strings.Repeat("\xff", 1024)}
	for i, name := range strings.Fields(inOrder) {
		g.choose(honest(1+i, choice(api.Drop, 0))...)
		g.do(0, scan(all, 9)) // the order of the walk: so this one comes into the quarantine
		if got := g.stores[0].Report().Quarantine; !slices.Equal(got, g.by(name)) {
			t.Errorf("23.11: %.3x in quarantine, not %s", got, name)
		}
		for _, b := range append(whatever, g.nodes[name]) {
			g.do(0, repair(b))
			g.does(0, root())
		}
		for _, a := range []ask{scrubs(3), sweeps(), scan(all, 9), get("\x21"), get("\x11\x12"), get("k")} {
			g.does(0, a)
		}
	}
	g.has("W5", g.by(inOrder)...)
	g.is("W5", 0, state{count: 2, seq: 1, staged: 1}, g.hashes["top"], false)
}
