package store_test

import (
	"slices"
	"testing"

	"cairn/api"
)

// Report ahead of all calls, behind each kind of call, and of a failed store; it makes no access.
func TestReport(t *testing.T) {
	g := layGarden(t, 64, 60000, 4)
	g.opens(4)
	now := state{count: 3, seq: 1}
	top := g.hashes["top"]
	g.is("23.11: ahead of all calls", 1, now, top, false)
	for _, c := range []struct {
		a      ask
		choose []api.Choice
		e      api.Errno
		want   state
	}{
		{get("\x21"), nil, 0, state{3, 1, 0, 3, 0}},
		{get("\x21"), nil, 0, state{3, 1, 0, 3, 0}},
		{root(), nil, 0, state{3, 1, 0, 3, 0}},
		{lays("k", "v"), nil, 0, state{3, 1, 1, 3, 0}},
		{lays("k", ""), nil, 2, state{3, 1, 1, 3, 0}},
		{deletes("k"), nil, 0, state{3, 1, 2, 3, 0}},
		{scan(all, 9), nil, 0, state{3, 1, 2, 4, 0}},
		{prove("\x11\x11"), honest(1, choice(api.Drop, 0)), 5, state{3, 1, 2, 4, 1}},
		{history(), nil, 0, state{3, 1, 2, 4, 1}},
		{proveSpan(all), honest(2, choice(api.Alter, 9)), 5, state{3, 1, 2, 4, 1}},
		{scrubs(1), nil, 0, state{3, 1, 2, 4, 1}},
		{scrubs(2), honest(1, choice(api.Drop, 0), choice(api.Drop, 0)), 0, state{3, 1, 2, 4, 2}},
		{abort(), nil, 0, state{3, 1, 0, 4, 2}},
		{repair(g.nodes["over"]), nil, 0, state{3, 1, 0, 4, 1}},
		{repair(g.nodes["over"]), nil, 220, state{3, 1, 0, 4, 1}},
		{commit(), nil, 0, state{4, 2, 0, 4, 1}},
		{sweeps(), nil, 0, state{4, 2, 0, 4, 0}},
		{lays("\x11\x12", "B"), nil, 0, state{4, 2, 1, 4, 0}},
		{commit(), honest(1, choice(api.Crash, 0)), 3, state{4, 2, 1, 4, 0}},
		{commit(), nil, 7, state{4, 2, 1, 4, 0}},
	} {
		g.choose(c.choose...)
		if _, e := g.do(1, c.a); e != c.e {
			t.Errorf("23.11: %s answers %d, not %d", c.a.name, e, c.e)
		}
		g.up()
		if made := g.made(func() { g.is("23.11: behind "+c.a.name, 1, c.want, top, c.e == 3 || c.e == 7) }); made != "" {
			t.Errorf("23.11: Report makes accesses: %s", made)
		}
	}
	if x := g.stores[0].Report(); x.Head.Count != 2 || x.Head.Root != top || x.Failed || x.Cached != 4 {
		t.Errorf("23.11: the earlier store, which has not looked: %+v", x)
	}
}

// The quarantine as the hstore tells it: rising. What is handed out is new memory.
func TestReportedQuarantine(t *testing.T) {
	g := layGarden(t, 64, 60000, 0)
	g.choose(honest(4, slices.Repeat([]api.Choice{choice(api.Drop, 0)}, 5)...)...)
	g.does(0, scrubs(9))
	want := rising(g.by("twig c d")) // what lies below the twig is not known
	for range 2 {
		q := g.stores[0].Report().Quarantine
		if !slices.Equal(q, want) {
			t.Errorf("23.11: %.3x, not %.3x", q, want)
		}
		clear(q[:cap(q)])
	}
}
