package store_test

import (
	"testing"

	"cairn/api"
	"cairn/media"
	"cairn/store"
)

// Of two stores at one device the earlier one fails at its next look, whichever call that is and whatever the later one has done; calls
// that make no access go on till then. The later one goes on.
func TestFenced(t *testing.T) {
	behind := map[string][]ask{
		"nothing": nil, "a commit": {lays("k", "v"), commit()}, "an empty one": {commit()}, "reads": {get("\x21"), root()},
	}
	for name, later := range behind {
		for _, a := range every() {
			g := layGarden(t, 64, 60000, 8)
			g.does(0, lays("x", "y"))
			who := g.opens(8)
			g.does(who, later...)
			g.does(0, deletes("z"), report())
			if !a.looks {
				g.does(0, a)
				continue
			}
			g.refuses("23.13: behind "+name, 0, a, api.ErrStale, "reg")
			for _, b := range append(every(), a) {
				g.refuses("W6: behind "+name, 0, b, api.ErrFailed, "")
			}
			g.does(who, lays("k", "w"), commit(), get("k"), get("x"), history(), scrubs(9), sweeps())
		}
	}
}

// Three of them, and an earlier one that was fenced off opened no door: each opening is a new one.
func TestFencedAgain(t *testing.T) {
	g := layGarden(t, 64, 60000, 8)
	for i := range 5 {
		who := g.opens(i)
		g.does(who, lays("k", string([]byte{byte(i + 1)})), commit(), get("k"))
		for earlier := range who {
			want := api.ErrFailed
			if earlier == who-1 {
				want = api.ErrStale
			}
			if _, e := g.do(earlier, get("k")); e != want {
				t.Errorf("23.13: store %d of %d: %d, not %d", earlier, who, e, want)
			}
		}
	}
}

// An opening that was met by a crash fences the earlier store off just if it had set the register.
func TestFencedByAnOpeningThatCrashed(t *testing.T) {
	for at, accesses := range []string{"reg-", "reg read-", "reg read append-", "reg read append setreg-"} {
		for _, kind := range []int{api.Crash, api.After} {
			g := layGarden(t, 64, 60000, 8)
			g.does(0, lays("k", "v"))
			g.choose(honest(at, choice(kind, 0))...)
			g.wantsOpen("23.1", 8, api.ErrDown, accesses)
			g.up()
			if at == 3 && kind == api.After {
				g.refuses("23.13", 0, commit(), api.ErrStale, "reg")
			} else {
				g.does(0, get("\x21"), root(), commit(), get("k"))
			}
			who := g.opens(8)
			g.does(who, get("k"))
			if _, e := g.do(0, root()); e != api.ErrStale && e != api.ErrFailed {
				t.Errorf("23.13: %d", e)
			}
		}
	}
}

// putBack makes a rig whose device has the log and the blobs of one time and the register of another.
func putBack(t *testing.T, g *garden, log, reg api.Media) *rig {
	t.Helper()
	r := &rig{t: t, bits: 256, book: g.book, bk: g.bk, plain: g.plain}
	r.load(api.Media{Slots: 64, Room: 60000, Blobs: log.Blobs, Log: log.Log, Reg: reg.Reg})
	r.truth = newTruth(r)
	return r
}

// A log that was put back to ahead of the last commit, with its blobs or without: ErrStale, as the register stands for a record that is
// not there. A register that is put back too (which no disk can do: it is what is trusted) shows the map of its time; over the later
// log the commit just behind its record as well.
func TestPutBack(t *testing.T) {
	g := layGarden(t, 64, 60000, 8)
	at := []api.Media{g.d.Media()}
	worlds := []world{g.truth.now}
	for _, value := range []string{"1", "2", "3"} {
		g.does(0, lays("\x22\x33", long+value), commit())
		at, worlds = append(at, g.d.Media()), append(worlds, g.truth.now)
	}
	for log := range at {
		for reg := range at {
			r := putBack(t, g, at[log], at[reg])
			shows := min(reg+1, log)
			if log >= reg {
				r.truth.is(worlds[shows].entries, worlds[shows].seq)
			}
			who, e := r.open(8)
			switch {
			case log < reg && e != api.ErrStale:
				t.Errorf("23.1: the log of %d, the register of %d: %d", log, reg, e)
			case log >= reg && e != api.OK:
				t.Errorf("23.1: the log of %d, the register of %d: %d", log, reg, e)
			case log >= reg:
				r.does(who, scan(all, 9), get("\x22\x33"))
			}
		}
	}
}

// Rollbacks under a store that is open: reads go by its root, whatever stands in the log; who reads the log finds it.
func TestRolledBackUnderAStore(t *testing.T) {
	g := layGarden(t, 64, 60000, 8)
	g.does(0, lays("\x22\x33", long+"1"), commit())
	g.choose(choice(api.Honest, 0), choice(api.Rollback, 1)) // the record is gone
	g.refuses("W6", 0, history(), api.ErrStale, "reg read")
	g.wantsOpen("W6", 8, api.ErrStale, "reg read")

	g = layGarden(t, 64, 60000, 0)
	g.does(0, lays("\x22\x33", long+"1"), commit())
	g.choose(choice(api.Honest, 0), choice(api.Rollback, 4)) // record and nodes are gone
	g.refuses("W1", 0, get("\x22\x33"), api.ErrNode, "reg get-")
	g.wants("23.9", 0, root(), hashOf(256, renewed(long + "1")[0]), "reg")
	g.choose(choice(api.Honest, 0), choice(api.Rollback, 1)) // they are there again
	g.does(0, get("\x22\x33"), history())
	g.does(g.opens(0), get("\x22\x33"))
}

// A session that goes on over a log that has lost its head without its knowing: its next commit answers OK, and is found.
func TestCommitOverALogThatWasCut(t *testing.T) {
	g := layGarden(t, 64, 60000, 8)
	g.aside("the log is cut", func(d *media.Device) { d.Cut(0) })
	g.does(0, lays("k", "v"), commit(), get("k"))
	if l := g.history(0); len(l) != 1 || l[0].Seq != 2 {
		t.Errorf("23.9: %+v", l)
	}
	g.does(g.opens(8), get("k"), get("\x21"))
}

// Stores at devices of their own, one the other's copy: neither fences the other off.
func TestCopiesAreApart(t *testing.T) {
	g := layGarden(t, 64, 60000, 8)
	copied, e := media.Load(g.d.Media())
	if e != api.OK {
		t.Fatal(e)
	}
	s, e := store.Open(copied, newBook(t, 256, 256), 8)
	if e != api.OK {
		t.Fatal(e)
	}
	if s.Put([]byte("k"), []byte("v")) != api.OK {
		t.Error("23.7")
	}
	if _, e := s.Commit(); e != api.OK {
		t.Errorf("23.8: %d", e)
	}
	if _, e := g.stores[0].Root(); e != api.OK {
		t.Errorf("R5: %d", e)
	}
	if v, found, e := s.Get([]byte("k")); string(v) != "v" || !found || e != api.OK {
		t.Errorf("23.4: %q, %d", v, e)
	}
}
