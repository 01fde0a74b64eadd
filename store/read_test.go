package store_test

import (
	"fmt"
	"slices"
	"strings"
	"testing"

	"cairn/api"
	"cairn/media"
	"cairn/seal"
	"cairn/shape"
)

// plant makes a rig whose device has a map's trie, committed by a session of its own, and a store that is opened there.
func plant(t *testing.T, entries map[string]string, cache int) *rig {
	t.Helper()
	r := lay(t, api.MaxSlots, 60000, 256, 256)
	blobs, e := shape.Nodes(r.plain, listed(entries))
	if e != api.OK {
		t.Fatalf("14.6: %d", e)
	}
	r.load(api.Media{Slots: api.MaxSlots, Room: 60000, Blobs: blobs})
	r.truth.is(entries, 1)
	one, _, e := seal.Open(r.d, r.book)
	two, _, f := seal.Open(r.twin, r.bk)
	if e != api.OK || f != api.OK {
		t.Fatalf("20.2: %d, %d", e, f)
	}
	one.Commit(r.truth.now.root, nil)
	two.Commit(r.truth.now.root, nil)
	r.opens(cache)
	return r
}

// What a key has, at each depth; without a cache each node on the way is an access, with one each is at most once.
func TestGet(t *testing.T) {
	ways := map[string]int{"": 1, "\x11\x11": 4, "\x11\x12": 4, "\x21": 3, "\x22\x33": 3, "\x22": 3, "\x22\x34": 3, "\x11": 2, "\x11\x13": 3, "\x33": 1, "\x11\x11\x11": 4, "\xff": 1}
	for key, n := range ways {
		value, found := planted()[key]
		g := layGarden(t, 64, 60000, 0)
		for range 2 {
			g.wants("23.4", 0, get(key), got{value, found}, words("reg", times(n, "get")))
		}
		g = layGarden(t, 64, 60000, 8)
		g.wants("23.4: from the cache", 0, get(key), got{value, found}, "reg")
		who := g.opens(8)
		g.wants("23.4: from the device", who, get(key), got{value, found}, words("reg", times(n, "get")))
		g.wants("23.4: from the cache", who, get(key), got{value, found}, "reg")
		g.is("23.11", who, state{count: 3, seq: 1, cached: n}, g.hashes["top"], false)
	}
}

// Keys at the limits.
func TestKeysAtTheLimits(t *testing.T) {
	most := strings.Repeat("k", 32)
	r := roomy(t)
	r.opens(0)
	r.does(0, lays(most, "deep"), lays(most[:31], "ahead"), lays("", "none"), commit())
	for key, value := range map[string]string{most: "deep", most[:31]: "ahead", "": "none", most[:30]: "", most[:31] + "l": ""} {
		if a, e := r.do(0, get(key)); e != api.OK || a != (got{value, value != ""}) {
			t.Errorf("23.4: Get of %d bytes: %s, %d", len(key), brief(a), e)
		}
		r.does(0, prove(key))
	}
	for _, n := range []int{33, 34, 64, 1000, 1 << 16} {
		key := strings.Repeat("k", n)
		for _, a := range []ask{get(key), prove(key), lays(key, "v"), deletes(key), scan(open(key), 0), scan(from("", key), 4096), proveSpan(open(key)), proveSpan(from("", key))} {
			r.refuses("23.4 to 23.7", 0, a, api.ErrInput, "")
		}
	}
	r.does(0, scan(open(most), 1), scan(from(most, most), 1), scan(from("", most), 4096), proveSpan(open(most)), proveSpan(from(most[:31], most)), deletes(most), commit(), get(most))
}

// What Scan tells, and what it reads.
func TestScan(t *testing.T) {
	for _, c := range []struct {
		b     api.Bounds
		limit int
		want  string
		more  bool
		reads int
	}{
		{all, 4096, "-=e 1111=A 1112=B 21=C 2233=D", false, 8},
		{all, 5, "-=e 1111=A 1112=B 21=C 2233=D", false, 8},
		{all, 4, "-=e 1111=A 1112=B 21=C", true, 8},
		{all, 1, "-=e", true, 4},
		{all, 0, "", true, 1},
		{open("\x11\x12"), 1, "1112=B", true, 6},
		{open("\x11\x12"), 0, "", true, 4},
		{open("\x22\x34"), 9, "", false, 3}, // the leaf d may have such a key
		{open("\x23"), 9, "", false, 2},
		{open("\x30"), 9, "", false, 1},
		{from("\x11\x11", "\x21"), 9, "1111=A 1112=B", false, 6}, // the fork may have a key ahead of 21
		{from("\x11\x11", "\x1f"), 9, "1111=A 1112=B", false, 5},
		{from("\x11\x11", "\x11\x12"), 9, "1111=A", false, 4},
		{from("\x21", "\x21"), 9, "", false, 2},
		{from("\x21", "\x11"), 9, "", false, 1},
		{from("", ""), 9, "", false, 0},
		{from("", ""), 0, "", false, 0},
		{from("", "\x00"), 9, "-=e", false, 1},
	} {
		g := layGarden(t, 64, 60000, 0)
		var want []string
		for _, x := range strings.Fields(c.want) {
			key, value, _ := strings.Cut(x, "=")
			if value != "e" {
				value = long + value
			}
			want = append(want, fmt.Sprintf("%s=%x", strings.Trim(key, "-"), value))
		}
		g.wants("23.5", 0, scan(c.b, c.limit), scanned{strings.Join(want, " "), c.more}, words("reg", times(c.reads, "get")))
	}
}

// hundreds is a map of so many short entries.
func hundreds(n int) map[string]string {
	entries := map[string]string{}
	for i := range n {
		entries[string([]byte{byte(i >> 8), byte(i)})] = string([]byte{byte(i%255 + 1)})
	}
	return entries
}

// Limits of a scan over more entries than may be asked for at once.
func TestScanLimits(t *testing.T) {
	r := plant(t, hundreds(4097), 256)
	for _, c := range []struct {
		limit, entries int
		more           bool
	}{{0, 0, true}, {1, 1, true}, {4095, 4095, true}, {4096, 4096, true}} {
		a, e := r.do(0, scan(all, c.limit))
		x := a.(scanned)
		if n := len(strings.Fields(x.entries)); e != api.OK || n != c.entries || x.more != c.more {
			t.Errorf("23.5: limit %d: %d entries, more %v, %d", c.limit, n, x.more, e)
		}
	}
	for _, limit := range []int{-1, 4097, 5000} {
		r.refuses("23.5", 0, scan(all, limit), api.ErrInput, "")
	}
	a, _ := r.do(0, scan(open("\x00\x01"), 4096))
	if x := a.(scanned); len(strings.Fields(x.entries)) != 4096 || x.more {
		t.Errorf("23.5: behind the first: more %v", x.more)
	}
}

// What is proved is what verify and span accept for the root; what is read for it, and how it lies in bytes.
func TestProve(t *testing.T) {
	g := layGarden(t, 64, 60000, 0)
	for key, names := range map[string]string{
		"": "top", "\x11\x11": "top over twig a", "\x22\x33": "top fork d", "\x21": "top fork c", "\x22\x34": "top fork d", "\x33": "top", "\x11\x13": "top over twig",
	} {
		g.wants("23.6", 0, prove(key), g.packed(names), words("reg", times(len(strings.Fields(names)), "get")))
	}
	for _, c := range []struct {
		b     api.Bounds
		names string
	}{
		{all, inOrder}, {open("\x11\x12"), "top over twig b fork c d"}, {open("\x22"), "top fork d"}, {open("\x30"), "top"},
		{from("\x11\x11", "\x1f"), "top over twig a b"}, {from("\x11\x11", "\x20"), "top over twig a b fork"}, {from("\x11\x11", "\x11\x12"), "top over twig a"}, {from("\x21", "\x11"), "top"}, {from("", ""), ""},
	} {
		g.wants("23.6", 0, proveSpan(c.b), g.packed(c.names), words("reg", times(len(strings.Fields(c.names)), "get")))
	}
	r := roomy(t)
	r.opens(0)
	r.wants("23.6: the empty trie", 0, prove("k"), "\xc0", "reg")
	r.wants("23.6: the empty trie", 0, proveSpan(all), "\xc0", "reg")
}

// packed is a proof of nodes by their names.
func (g *garden) packed(names string) string {
	var items []string
	for _, name := range strings.Fields(names) {
		items = append(items, item(g.nodes[name]))
	}
	return list(items...)
}

// A range whose proof would be longer than a proof may be: ErrFull, and the store goes on.
func TestProofTooLong(t *testing.T) {
	entries := map[string]string{}
	for i := range 600 {
		entries[string([]byte{byte(i >> 8), byte(i)})] = strings.Repeat(string([]byte{byte(i%255 + 1)}), 256)
	}
	r := plant(t, entries, 0)
	if _, e := r.do(0, proveSpan(all)); e != api.ErrFull || r.failed(0) {
		t.Errorf("23.6: %d", e)
	}
	r.does(0, proveSpan(from("\x00\x00", "\x01\x00")), proveSpan(open("\x01")), prove("\x01\x01"), scan(all, 4096))
}

// Reads see the committed map alone, whatever stands in the batch.
func TestReadsDoNotSeeTheBatch(t *testing.T) {
	for _, cache := range []int{0, 8} {
		g := layGarden(t, 64, 60000, cache)
		reads := []ask{get(""), get("\x21"), get("k"), scan(all, 9), prove("\x21"), prove("k"), proveSpan(all), root()}
		var was []any
		for _, a := range reads {
			answer, _ := g.do(0, a)
			was = append(was, answer)
		}
		for _, change := range []ask{lays("k", "v"), deletes("\x21"), lays("", "E"), lays("\x21", long), deletes(""), abort(), deletes("k")} {
			g.does(0, change)
			for i, a := range reads {
				if answer, e := g.do(0, a); answer != was[i] || e != api.OK {
					t.Errorf("23.7: behind %s %s answers %s, %d", change.name, a.name, brief(answer), e)
				}
			}
		}
	}
}

// A node that is lost or altered: ErrNode, where it is on the way; its hash stands in the quarantine till it is read right.
func TestLostNodes(t *testing.T) {
	g := layGarden(t, 64, 60000, 0)
	g.aside("the twig is lost, the fork altered", func(d *media.Device) {
		d.Delete(g.hashes["twig"])
		d.Put(g.hashes["fork"], []byte(g.nodes["fork"]+"?"))
	})
	for _, a := range []ask{get("\x11\x11"), prove("\x11\x12")} {
		g.refuses("23.4", 0, a, api.ErrNode, "reg get get get-")
	}
	for _, a := range []ask{get("\x21"), prove("\x22\x33")} {
		g.refuses("23.4", 0, a, api.ErrNode, "reg get get")
	}
	g.refuses("23.5", 0, scan(all, 9), api.ErrNode, "reg get get get-")
	g.refuses("23.6", 0, proveSpan(open("\x21")), api.ErrNode, "reg get get")
	g.does(0, get(""), get("\x33"), scan(all, 0), scan(from("", "\x11"), 9), proveSpan(open("\x30")))
	if got := g.stores[0].Report().Quarantine; !slices.Equal(got, rising(g.by("twig fork"))) {
		t.Errorf("23.11: the quarantine has %.3x", got)
	}
	g.aside("they are there again", func(d *media.Device) {
		d.Put(g.hashes["twig"], []byte(g.nodes["twig"]))
		d.Put(g.hashes["fork"], []byte(g.nodes["fork"]))
	})
	g.does(0, get("\x11\x11"))
	if got := g.stores[0].Report().Quarantine; !slices.Equal(got, g.by("fork")) {
		t.Errorf("23.11: the quarantine has %.3x", got)
	}
	g.does(0, scan(all, 9))
	g.is("23.11", 0, state{count: 2, seq: 1}, g.hashes["top"], false)
}

// Root and History behind each kind of record; History behind a trim of the log.
func TestRootAndHistory(t *testing.T) {
	r := lay(t, 64, 400, 256, 256)
	r.opens(8)
	empty := emptyRoot(256)
	r.wants("23.9", 0, root(), empty, "reg")
	t1 := r.stores[0].Report().Head.Tag
	r.does(0, lays("k", "1"), deletes("z"), lays("k", "v"), commit())
	top := hashOf(256, leaf("6b", "v"))
	r.wants("23.9", 0, root(), top, "reg")
	want := told([]api.Record{
		{Kind: api.Opened, Count: 1, Root: empty},
		{Kind: api.Committed, Count: 2, Seq: 1, Prev: t1, Root: top, Changes: []api.Change{put("k", "1"), gone("z"), put("k", "v")}},
	})
	r.wants("23.9", 0, history(), want, "reg read")
	for range 2 {
		r.wants("23.9", 0, history(), want, "reg read")
	}
	who := r.opens(8)
	if l := r.history(who); len(l) != 3 || l[2].Kind != api.Opened || l[2].Seq != 1 || l[2].Root != top {
		t.Errorf("23.9: %+v", l)
	}
	r.wants("23.8: the log is trimmed", who, commit(), top, "reg append- read trim append setreg")
	if l := r.history(who); len(l) != 2 || l[0].Count != 3 || l[1].Count != 4 || l[1].Seq != 2 || len(l[1].Changes) != 0 {
		t.Errorf("23.9: %+v", l)
	}
	r.aside("bytes behind the head", func(d *media.Device) { d.Append([]byte("rubbish")) })
	if l := r.history(who); len(l) != 2 {
		t.Errorf("23.9: %+v", l)
	}
	r.aside("the head is cut off", func(d *media.Device) { d.Cut(111) })
	r.wants("23.9: Root asks the register alone", who, root(), top, "reg")
	r.refuses("23.9", who, history(), api.ErrStale, "reg read")
	r.refuses("23.3", who, history(), api.ErrFailed, "")
	r.refuses("23.3", who, root(), api.ErrFailed, "")
}
