package store_test

import (
	"strings"
	"testing"

	"cairn/api"
)

// Changes at the limits of keys and values; none of them makes an access, nor is any refused one laid.
func TestChangesAtTheLimits(t *testing.T) {
	r := roomy(t)
	r.opens(8)
	staged := 0
	for _, key := range []string{"", "k", strings.Repeat("k", 31), strings.Repeat("k", 32)} {
		for _, value := range []string{"v", "\x00", strings.Repeat("v", 255), strings.Repeat("v", 256)} {
			r.wants("23.7", 0, lays(key, value), done{}, "")
			staged++
		}
		for _, value := range []string{"", strings.Repeat("v", 257), strings.Repeat("v", 1<<15)} {
			r.refuses("23.7", 0, lays(key, value), api.ErrInput, "")
		}
		r.wants("23.7", 0, deletes(key), done{}, "")
		staged++
	}
	for _, n := range []int{33, 34, 65, 1 << 15} {
		for _, value := range []string{"", "v", strings.Repeat("v", 257)} {
			r.refuses("23.7", 0, lays(strings.Repeat("k", n), value), api.ErrInput, "")
		}
		r.refuses("23.7", 0, deletes(strings.Repeat("k", n)), api.ErrInput, "")
	}
	r.is("23.7", 0, state{count: 1, staged: staged}, emptyRoot(256), false)
	r.does(0, commit(), scan(all, 9))
	if l := r.history(0); len(l) != 2 || len(l[1].Changes) != staged {
		t.Errorf("23.7: %+v", l)
	}
}

// The batch at its limit: told behind what may not be; it has room again behind Abort and Commit, and none behind a Commit that is
// refused.
func TestFullBatch(t *testing.T) {
	g := layGarden(t, 64, 60000, 0)
	fills := func() {
		t.Helper()
		for i := range 32 {
			g.is("23.7", 0, state{count: g.stores[0].Report().Head.Count, seq: g.stores[0].Report().Head.Seq, staged: i}, g.stores[0].Report().Head.Root, false)
			g.wants("23.7", 0, []ask{lays("k", "v"), deletes("l")}[i%2], done{}, "")
		}
		for range 2 {
			for _, a := range []ask{lays("k", "v"), deletes("k"), lays("", strings.Repeat("v", 256)), deletes("")} {
				g.refuses("23.7: the batch is full", 0, a, api.ErrBatch, "")
			}
			for _, a := range []ask{lays("k", ""), deletes(strings.Repeat("k", 33))} {
				g.refuses("23.2: what may not be comes first", 0, a, api.ErrInput, "")
			}
		}
		if n := g.stores[0].Report().Staged; n != 32 {
			t.Errorf("23.7: %d changes", n)
		}
	}
	fills()
	g.wants("23.7", 0, abort(), done{}, "")
	fills()
	g.does(0, commit())
	fills()
	g.choose(honest(1, choice(api.Drop, 0))...)
	g.refuses("23.8", 0, commit(), api.ErrNode, "reg get-")
	g.refuses("23.14: the batch is as it was", 0, lays("k", "v"), api.ErrBatch, "")
	g.does(0, commit(), lays("k", "v"))
}

// Of two changes of one key the later one counts, whatever they are.
func TestTheLaterChangeCounts(t *testing.T) {
	for _, c := range []struct {
		changes []ask
		want    string
	}{
		{[]ask{lays("\x21", "1"), lays("\x21", "2")}, "2"},
		{[]ask{lays("\x21", "2"), lays("\x21", "1")}, "1"},
		{[]ask{lays("\x21", "1"), deletes("\x21")}, ""},
		{[]ask{deletes("\x21"), lays("\x21", "1")}, "1"},
		{[]ask{deletes("\x21"), deletes("\x21")}, ""},
		{[]ask{lays("\x21", "1"), lays("k", "v"), lays("\x21", "2"), deletes("\x11\x11"), deletes("\x21"), lays("\x21", "3")}, "3"},
		{[]ask{deletes("k"), lays("k", "v"), deletes("k")}, long + "C"},
	} {
		g := layGarden(t, 64, 60000, 0)
		g.does(0, c.changes...).does(0, commit())
		if a, e := g.do(0, get("\x21")); a != (got{c.want, c.want != ""}) || e != api.OK {
			t.Errorf("23.7: %s behind %d changes, %d", brief(a), len(c.changes), e)
		}
		if l := g.history(0); len(l[2].Changes) != len(c.changes) {
			t.Errorf("23.8: the record has %d changes", len(l[2].Changes))
		}
	}
}

// Abort empties the batch, and nothing else; a commit behind it changes nothing.
func TestAbort(t *testing.T) {
	g := layGarden(t, 64, 60000, 8)
	g.does(0, scrubs(3))
	for range 2 {
		g.does(0, lays("k", "v"), deletes("\x21"))
		g.wants("23.7", 0, abort(), done{}, "")
		g.wants("23.7: an empty batch too", 0, abort(), done{}, "")
		g.is("23.7", 0, state{count: 2, seq: 1, cached: 8}, g.hashes["top"], false)
	}
	g.wants("23.7: the pass goes on", 0, scrubs(1), api.Pass{Seen: 4}, "reg get")
	g.wants("23.8", 0, commit(), g.hashes["top"], "reg append setreg")
	g.does(0, scan(all, 9))
	if l := g.history(0); len(l) != 3 || len(l[2].Changes) != 0 {
		t.Errorf("23.8: %+v", l)
	}
}
