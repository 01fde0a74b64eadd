package store_test

import (
	"slices"
	"strings"
	"testing"

	"cairn/api"
	"cairn/media"
)

// renewed is the new nodes that a put of 22 33 with another value brings, in their order.
func renewed(value string) []string {
	n := gardenNodes(value)
	return []string{n["top"], n["fork"], n["d"]}
}

// The nodes of a batch, in their order: those that the new root leads to through new ones, each behind the one that leads to it; a
// crash at each of them shows which were written ahead of it.
func TestNodesAreWrittenInOrder(t *testing.T) {
	order := strings.Fields(inOrder)
	for at := range order {
		r := roomy(t)
		r.opens(8)
		r.sets(0, planted())
		r.choose(honest(1+2*at+1, choice(api.Crash, 0))...)
		r.refuses("23.8", 0, commit(), api.ErrDown, words("reg", times(at, "get- put"), "get- put-"))
		g := &garden{rig: r, hashes: map[string]api.Hash{}}
		for name, encoding := range gardenNodes(long + "D") {
			g.hashes[name] = hashOf(256, encoding)
		}
		g.has("23.8: up to the crash", g.by(strings.Join(order[:at], " "))...)
	}
	r := roomy(t)
	r.opens(8)
	r.sets(0, planted())
	r.wants("23.8", 0, commit(), hashOf(256, gardenNodes(long + "D")["top"]), words("reg", times(8, "get- put"), "append setreg"))
	r.is("23.8", 0, state{count: 2, seq: 1, cached: 8}, hashOf(256, gardenNodes(long + "D")["top"]), false)
}

// A change far down: the nodes on the way to it are read and written anew, all else is neither.
func TestCommitOfOneChange(t *testing.T) {
	for _, c := range []struct {
		name   string
		change ask
		reads  int
		nodes  []string
		left   string // what stays the trie's
	}{
		{"another value", lays("\x22\x33", long+"!"), 3, renewed(long + "!"), "over twig a b c"},
		{"a short value", lays("\x22\x33", "!"), 3, func() []string {
			fork := branch("", kid{1, by(leaf("", long+"C"))}, kid{2, leaf("33", "!")})
			return []string{branch("e", kid{1, by(gardenNodes("")["over"])}, kid{2, by(fork)}), fork}
		}(), "over twig a b c"},
		{"a leaf goes, and the fork with it", deletes("\x21"), 4, func() []string {
			d := leaf("233", long+"D")
			return []string{branch("e", kid{1, by(gardenNodes("")["over"])}, kid{2, by(d)}), d}
		}(), "over twig a b"},
		{"the value at the top", lays("", "E"), 1, []string{
			branch("E", kid{1, by(gardenNodes("")["over"])}, kid{2, by(gardenNodes(long + "D")["fork"])}),
		}, "over twig a b fork c d"},
		{"a new key", lays("\xff", long), 1, []string{
			branch("e", kid{1, by(gardenNodes("")["over"])}, kid{2, by(gardenNodes(long + "D")["fork"])}, kid{15, by(leaf("f", long))}), leaf("f", long),
		}, "over twig a b fork c d"},
	} {
		g := layGarden(t, 64, 60000, 0)
		g.does(0, c.change)
		g.wants("23.8: "+c.name, 0, commit(), hashOf(256, c.nodes[0]), words("reg", times(c.reads, "get"), times(len(c.nodes), "get- put"), "append setreg"))
		g.has("23.8: "+c.name, append(g.by(inOrder), hashesOf(c.nodes...)...)...)
		g.is("23.8: "+c.name, 0, state{count: 3, seq: 2}, hashOf(256, c.nodes[0]), false)
		g.does(0, scan(all, 9))
		g.wants("23.10: "+c.name, 0, sweeps(), api.Swept{Live: len(strings.Fields(c.left)) + len(c.nodes), Deleted: 8 - len(strings.Fields(c.left))},
			words("reg", times(len(strings.Fields(c.left))+len(c.nodes), "get"), "list", times(8-len(strings.Fields(c.left)), "delete")))
		g.has("23.10: "+c.name, append(g.by(c.left), hashesOf(c.nodes...)...)...)
	}
}

// What the device has already is looked at, and not written again: nodes of an earlier map, those of a commit that was refused, and
// those that the changes come back to.
func TestNodesThatAreThere(t *testing.T) {
	g := layGarden(t, 64, 60000, 0)
	g.does(0, lays("\x22\x33", long+"!"), commit(), lays("\x22\x33", long+"D"))
	g.wants("23.8: an earlier map's", 0, commit(), g.hashes["top"], words("reg", times(3, "get"), times(3, "get"), "append setreg"))

	g = layGarden(t, 64, 60000, 8)
	g.does(0, lays("\x22\x33", long+"!"), commit(), lays("\x22\x33", long+"D"))
	g.wants("23.8: the cache has them, and the device is looked at all the same", 0, commit(), g.hashes["top"], words("reg", times(3, "get"), "append setreg"))
	g.does(0, lays("\x22\x33", long+"!"))
	g.aside("one is lost", func(d *media.Device) { d.Delete(hashOf(256, renewed(long + "!")[1])) })
	g.wants("23.8: one is lost", 0, commit(), hashOf(256, renewed(long + "!")[0]), "reg get get- put get append setreg")
	g.does(0, lays("\x22\x33", long+"?"))
	g.aside("other bytes stand there", func(d *media.Device) { d.Put(hashOf(256, renewed(long + "?")[2]), []byte("rubbish")) })
	g.wants("23.8: other bytes stand there", 0, commit(), hashOf(256, renewed(long + "?")[0]), "reg get- put get- put get put append setreg")
	g.does(0, scan(all, 9))

	g = layGarden(t, 64, 60000, 0)
	g.does(0, lays("\x22\x33", long+"!"), lays("\x22\x33", long+"D"))
	g.wants("23.8: the changes come back", 0, commit(), g.hashes["top"], words("reg", times(3, "get"), times(3, "get"), "append setreg"))
	g.has("23.8: what they came by is not written", g.by(inOrder)...)
}

// Batches that change nothing are committed too: of no change, of changes that come to nothing.
func TestCommitsThatChangeNothing(t *testing.T) {
	g := layGarden(t, 64, 60000, 0)
	for i, c := range []struct {
		changes  []ask
		accesses string
	}{
		{nil, "reg append setreg"},
		{[]ask{lays("", "e")}, "reg get append setreg"},
		{[]ask{deletes("\x33")}, "reg get append setreg"},
		{[]ask{lays("\x21", long+"C"), deletes("k")}, "reg get get get get append setreg"},
		{nil, "reg append setreg"},
	} {
		g.does(0, c.changes...)
		g.wants("23.8", 0, commit(), g.hashes["top"], c.accesses)
		g.is("23.8", 0, state{count: int64(i) + 3, seq: int64(i) + 2}, g.hashes["top"], false)
	}
	g.has("23.8", g.by(inOrder)...)
	r := roomy(t)
	r.opens(8)
	r.does(0, deletes("k"), deletes(""))
	r.wants("23.8: of no map", 0, commit(), emptyRoot(256), "reg append setreg")
	r.does(0, lays("k", long), deletes("k"))
	r.wants("23.8: of no map", 0, commit(), emptyRoot(256), "reg append setreg")
	r.has("23.8: of no map")
	r.is("23.8: of no map", 0, state{count: 3, seq: 2}, emptyRoot(256), false)
}

// The map is emptied, and filled again.
func TestCommitThatEmptiesTheMap(t *testing.T) {
	g := layGarden(t, 64, 60000, 8)
	for key := range planted() {
		g.does(0, deletes(key))
	}
	g.wants("23.8", 0, commit(), emptyRoot(256), "reg append setreg")
	g.is("23.8", 0, state{count: 3, seq: 2, cached: 8}, emptyRoot(256), false)
	g.wants("23.9", 0, root(), emptyRoot(256), "reg")
	g.does(0, get(""), get("\x21"), scan(all, 9), prove("\x21"), proveSpan(all))
	g.wants("23.10: all goes", 0, sweeps(), api.Swept{Deleted: 8}, words("reg list", times(8, "delete")))
	g.has("23.10: all goes")
	g.sets(0, planted())
	g.wants("23.8: again", 0, commit(), g.hashes["top"], words("reg", times(8, "get- put"), "append setreg"))
}

// A node that finds no slot: one sweep, which keeps the present trie and the new nodes, and then the same node once more.
func TestCommitSweepsOnce(t *testing.T) {
	for cache, reads := range map[int]string{0: times(3, "get"), 8: ""} {
		marked := times(8, "get")
		if cache > 0 {
			marked = ""
		}
		g := layGarden(t, 11, 60000, cache)
		was := g.by(inOrder)
		for i, value := range []string{"1", "2", "3", "4"} {
			nodes := renewed(long + value)
			accesses := words("reg", reads, "get- put-", marked, "list", times(3, "delete"), "get- put", times(2, "get- put"), "append setreg")
			if i == 0 { // there are three slots more than the map needs
				accesses = words("reg", reads, times(3, "get- put"), "append setreg")
			}
			g.does(0, lays("\x22\x33", long+value))
			g.wants("23.8", 0, commit(), hashOf(256, nodes[0]), accesses)
			now := append(g.by("over twig a b c"), hashesOf(nodes...)...)
			g.has("23.8: the present trie was kept", append(was, now...)...)
			g.does(0, scan(all, 9))
			was = now
		}
	}
}

// The sweep keeps those of the new nodes that stood there ahead of the commit, and those that it had written ahead of the sweep.
func TestTheSweepKeepsNewNodes(t *testing.T) {
	g := layGarden(t, 11, 60000, 0)
	nodes := renewed(long + "!")
	g.aside("the last new node is there, and a stray", func(d *media.Device) {
		d.Put(hashOf(256, nodes[2]), []byte(nodes[2]))
		d.Put(api.Hash{1}, []byte("stray"))
	})
	g.does(0, lays("\x22\x33", long+"!"))
	// The top finds the last slot, the fork none: the stray goes.
	g.wants("23.8", 0, commit(), hashOf(256, nodes[0]), words("reg", times(3, "get"), "get- put get- put-", times(8, "get"), "list delete get- put get append setreg"))
	g.has("23.8", append(g.by(inOrder), hashesOf(nodes...)...)...)
	g.does(0, scan(all, 9))
}

// No slot behind the sweep either: ErrFull; what was written stays, and all else is as it was.
func TestCommitWithoutASlot(t *testing.T) {
	for slots, tries := range map[int][]string{
		8:  {"get- put-" + " SWEEP " + "get- put-", "get- put-" + " SWEEP " + "get- put-"},
		9:  {"get- put get- put-" + " SWEEP " + "get- put-", "get get- put-" + " SWEEP " + "get- put-"},
		10: {"get- put get- put get- put-" + " SWEEP " + "get- put-", "get get get- put-" + " SWEEP " + "get- put-"},
	} {
		g := layGarden(t, slots, 60000, 0)
		nodes := renewed(long + "!")
		g.does(0, scrubs(2), lays("\x22\x33", long+"1"), lays("\x22\x33", long+"!"))
		for _, try := range tries {
			sweep := words(times(8, "get"), "list")
			g.refuses("23.8", 0, commit(), api.ErrFull, words("reg", times(3, "get"), strings.ReplaceAll(try, "SWEEP", sweep)))
			g.has("23.8: what was written stays", append(g.by(inOrder), hashesOf(nodes[:slots-8]...)...)...)
			g.is("23.14", 0, state{count: 2, seq: 1, staged: 2}, g.hashes["top"], false)
			for key := range planted() {
				g.does(0, get(key))
			}
			g.wants("23.14", 0, root(), g.hashes["top"], "reg")
			if l := g.history(0); len(l) != 2 {
				t.Errorf("23.14: %d records", len(l))
			}
		}
		g.wants("23.8: the pass goes on", 0, scrubs(1), api.Pass{Seen: 3}, "reg get")
		g.does(0, abort(), lays("", "E"))
		if slots > 8 { // one node more
			g.does(0, commit(), scan(all, 9))
		}
	}
}

// A sweep that frees too little, as the device drops a deleting: ErrFull, and no second sweep; the same batch goes well as soon as the
// device is honest.
func TestOneSweepForEachCommit(t *testing.T) {
	g := layGarden(t, 11, 60000, 20)
	g.does(0, lays("\x22\x33", long+"1"), commit(), lays("\x22\x33", long+"2"))
	drops := choice(api.Drop, 0)
	g.choose(honest(4, drops, drops, drops)...)
	g.refuses("23.8", 0, commit(), api.ErrFull, "reg get- put- list delete delete delete get- put-")
	g.choose(honest(3, drops)...)
	g.refuses("23.8: nothing is listed", 0, commit(), api.ErrFull, "reg get- put- list get- put-")
	g.choose(honest(4, drops, choice(api.Honest, 0), drops)...)
	g.refuses("23.8: one slot is found", 0, commit(), api.ErrFull, "reg get- put- list delete delete delete get- put get- put-")
	g.is("23.14", 0, state{count: 3, seq: 2, staged: 1, cached: 9}, hashOf(256, renewed(long + "1")[0]), false)
	g.wants("23.14: the same batch later", 0, commit(), hashOf(256, renewed(long + "2")[0]), "reg get get- put- list delete delete get- put get- put append setreg")
	g.does(0, scan(all, 9))
}

// A sweep that can't be made: its error; nothing was deleted.
func TestCommitWhoseSweepIsRefused(t *testing.T) {
	g := layGarden(t, 10, 60000, 0)
	g.aside("a leaf off the way is altered, and two strays", func(d *media.Device) {
		d.Put(g.hashes["a"], []byte("altered"))
		d.Put(api.Hash{1}, nil)
		d.Put(api.Hash{2}, nil)
	})
	g.does(0, lays("\x22\x33", long+"!"))
	g.refuses("23.8", 0, commit(), api.ErrNode, words("reg", times(3, "get"), "get- put-", times(7, "get")))
	g.is("23.14", 0, state{count: 2, seq: 1, staged: 1, quarantine: 1}, g.hashes["top"], false)
	g.has("21.6", append(g.by(inOrder), api.Hash{1}, api.Hash{2})...)
	g.does(0, repair(g.nodes["a"]))
	g.refuses("23.14: the same batch later: two slots are found", 0, commit(), api.ErrFull, words("reg", times(3, "get"), "get- put-", times(8, "get"), "list delete delete get- put get- put get- put-"))
	for at, e := range map[int]api.Errno{5: api.ErrDown, 6: api.ErrDown, 14: api.ErrDown, 15: api.ErrDown} { // in the marking, at the list, at a deleting
		g = layGarden(t, 9, 60000, 0)
		g.aside("a stray", func(d *media.Device) { d.Put(api.Hash{1}, nil) })
		g.does(0, lays("\x22\x33", long+"!"))
		g.choose(honest(at, choice(api.Crash, 0))...)
		if _, f := g.do(0, commit()); f != e || !g.failed(0) {
			t.Errorf("23.8: a crash at access %d: %d", at, f)
		}
	}
}

// A batch that can't be done as a node on its way can't be read: that error, and nothing is written; the same batch goes well later.
func TestCommitOverLostNodes(t *testing.T) {
	for at, names := range map[int]string{1: "top", 2: "fork", 3: "d"} {
		for _, how := range []api.Choice{choice(api.Drop, 0), choice(api.Alter, 3)} {
			g := layGarden(t, 64, 60000, 0)
			g.does(0, scrubs(3), deletes("\x33"), lays("\x22\x33", long+"!"))
			g.choose(honest(at+1, how)...) // behind the top that the first change reads
			accesses := words("reg get", times(at, "get"))
			if how.Kind == api.Drop {
				accesses += "-"
			}
			g.refuses("23.8", 0, commit(), api.ErrNode, accesses)
			if got := g.stores[0].Report().Quarantine; !slices.Equal(got, g.by(names)) {
				t.Errorf("23.11: the quarantine has %.3x", got)
			}
			g.is("23.14", 0, state{count: 2, seq: 1, staged: 2, quarantine: 1}, g.hashes["top"], false)
			g.has("23.8", g.by(inOrder)...)
			for key := range planted() {
				g.does(0, get(key))
			}
			g.wants("23.8: the pass goes on", 0, scrubs(1), api.Pass{Seen: 4}, "reg get")
			g.wants("23.14: the same batch later", 0, commit(), hashOf(256, renewed(long + "!")[0]), words("reg get", times(3, "get"), times(3, "get- put"), "append setreg"))
		}
	}
}

// No room in the log: ErrFull behind the nodes; History may lack its beginning then, and all else is as it was.
func TestCommitWithoutRoomInTheLog(t *testing.T) {
	r := lay(t, 64, 400, 256, 256)
	r.opens(0)
	r.does(0, lays("k", strings.Repeat("v", 100)), commit())
	top := r.truth.now.root
	r.does(0, lays("k", strings.Repeat("w", 200)))
	for range 3 {
		r.do(0, lays("k", strings.Repeat("w", 200)))
	}
	r.refuses("23.8", 0, commit(), api.ErrFull, "reg get get- put append- read trim append-")
	r.is("23.14", 0, state{count: 2, seq: 1, staged: 4}, top, false)
	if l := r.history(0); len(l) != 1 || l[0].Count != 2 || l[0].Root != top {
		t.Errorf("23.14: %+v", l)
	}
	r.does(0, get("k"), root())
	r.refuses("23.8: nothing to be trimmed any more", 0, commit(), api.ErrFull, "reg get get append- read")
	r.is("23.14", 0, state{count: 2, seq: 1, staged: 4}, top, false)
	r.does(0, abort(), lays("k", "w"))
	r.wants("23.8: a smaller one", 0, commit(), hashOf(256, leaf("6b", "w")), "reg get get- put append setreg")
	r.does(0, lays("k", "x"))
	r.wants("23.8: the log is trimmed", 0, commit(), hashOf(256, leaf("6b", "x")), "reg get get- put append- read trim append setreg")
	if l := r.history(0); len(l) != 2 || l[0].Count != 3 {
		t.Errorf("23.9: %+v", l)
	}
}

// clashing tells two values with which the leaf of k has one hash of eight bits, unlike the empty trie's.
func clashing() (string, string) {
	seen := map[api.Hash]string{}
	for i := 1; ; i++ {
		value := string([]byte{byte(i), byte(i >> 8)})
		h := hashOf(8, leaf("6b", value))
		if one, there := seen[h]; there && h != emptyRoot(8) {
			return one, value
		}
		seen[h] = value
	}
}

// Two different nodes with one hash: ErrClash, by the cache or by the device; the store goes on, and nothing has changed.
func TestCommitOfClashes(t *testing.T) {
	one, two := clashing()
	for cache, accesses := range map[int]string{0: "reg get get", 4: "reg"} {
		r := lay(t, 9, 60000, 8, 256)
		r.opens(cache)
		r.does(0, lays("k", one), commit(), lays("k", two))
		top := hashOf(8, leaf("6b", one))
		for range 2 {
			r.refuses("23.8", 0, commit(), api.ErrClash, accesses)
			r.is("23.14", 0, state{count: 2, seq: 1, staged: 1, cached: min(cache, 1)}, top, false)
		}
		a, _ := r.do(0, get("k"))
		if r.book.Sound() || a != (got{one, true}) {
			t.Errorf("23.14: %s, sound %v", brief(a), r.book.Sound())
		}
		r.does(0, abort(), lays("k", one), commit())
	}
	r := lay(t, 9, 60000, 8, 256) // on the stage
	r.opens(4)
	r.does(0, lays("k", one), lays("k", two))
	r.refuses("23.8", 0, commit(), api.ErrClash, "reg")
	r.has("23.8: nothing is written")
	r.is("23.14", 0, state{count: 1, staged: 2}, emptyRoot(8), false)
}

// A commit takes the pass away; one that is refused leaves it.
func TestCommitsAndPasses(t *testing.T) {
	for _, change := range []ask{lays("\x22\x33", long), deletes("k"), abort()} {
		g := layGarden(t, 64, 60000, 8)
		g.wants("23.10", 0, scrubs(5), api.Pass{Seen: 5}, words("reg", times(5, "get")))
		g.does(0, change)
		g.choose(honest(2, choice(api.Alter, 0))...)
		g.does(0, root())
		g.wants("23.10: the pass goes on", 0, scrubs(1), api.Pass{Seen: 6, Bad: 1}, "reg get")
		g.does(0, commit())
		g.wants("23.8: there is no pass any more", 0, scrubs(1), api.Pass{Seen: 1}, "reg get")
	}
}

// Commits one behind the other, each with its record; the head moves by one each time.
func TestHeadsAndRecords(t *testing.T) {
	r := roomy(t)
	r.opens(8)
	tag := r.stores[0].Report().Head.Tag
	for i := range int64(9) {
		r.does(0, lays("k", strings.Repeat("v", int(i)+1)), deletes("z"), commit())
		x := r.stores[0].Report().Head
		l := r.history(0)
		last := l[len(l)-1]
		if x.Count != i+2 || x.Seq != i+1 || x.Tag == tag || last.Prev != tag || last.Root != x.Root || last.Kind != api.Committed || len(l) != int(i)+2 {
			t.Fatalf("23.8: %+v behind %+v", x, last)
		}
		if c := last.Changes; len(c) != 2 || string(c[0].Value) != strings.Repeat("v", int(i)+1) || !c[1].Gone || string(c[1].Key) != "z" {
			t.Errorf("23.8: the record's changes are %+v", c)
		}
		tag = x.Tag
	}
}
