package store_test

import (
	"math/rand"
	"strings"
	"testing"

	"cairn/api"
	"cairn/journal"
)

// downs tells the choices by which an access goes down, with how much of n bytes is written.
func downs(n int) []api.Choice {
	out := []api.Choice{{Kind: api.Crash}, {Kind: api.After}}
	for _, k := range []int{0, 1, 6, 7, n / 2, n - 33, n - 1, n} {
		if k >= 0 {
			out = append(out, api.Choice{Kind: api.Torn, N: k})
		}
	}
	return out
}

// written tells how many bytes the record of a scene's commit has in the log.
func written(g *garden, s scene) int {
	s.call(g)
	all, _ := journal.Scan(g.plain, g.d.Media().Log)
	last := all[len(all)-1]
	return last.End - last.Begin
}

// commitScenes are the scenes of commits that are done if all is honest, but for the one that trims the log.
func commitScenes() []scene {
	var out []scene
	for _, s := range scenes() {
		if strings.HasPrefix(s.name, "commit") && s.name != "commit in vain" {
			out = append(out, s)
		}
	}
	emptied := func(t *testing.T) *garden {
		g := layGarden(t, 64, 60000, 20).past()
		for key := range planted() {
			g.does(0, deletes(key))
		}
		return g
	}
	first := func(t *testing.T) *garden {
		g := &garden{rig: roomy(t)}
		g.opens(8)
		g.sets(0, planted())
		return g
	}
	return append(out,
		scene{"commit that empties the map", emptied, out[0].call, "reg append setreg", ""},
		scene{"the first commit", first, out[0].call, "reg " + times(8, "get- put") + " append setreg", ""},
	)
}

// W3: a crash and a torn write at each access of a commit: the next opening shows the whole batch just if its whole record came into
// the log ahead of that, else nothing of it; what is shown then is settled, and the batch can be done (again).
func TestCrashesOfACommit(t *testing.T) {
	for _, s := range commitScenes() {
		n := written(s.lay(t), s)
		accesses := strings.Fields(s.calls)
		for at, access := range accesses {
			for _, c := range downs(n) {
				g := s.lay(t)
				batch := g.models[0].batch
				was, then := g.truth.now, g.truth.behind(batch)
				g.choose(honest(at, c)...)
				down := c.Kind != api.Torn || access != "reg" && access != "setreg"
				if e := s.call(g); e != map[bool]api.Errno{true: api.ErrDown, false: api.OK}[down] || g.failed(0) != down {
					g.fails("23.3: %v at %s: Commit answers %d", c, access, e)
				}
				whole := at > lastAppend(accesses) || at == lastAppend(accesses) && (c.Kind == api.After || c.Kind == api.Torn && c.N == n)
				want := was
				if whole || !down {
					want = then
				}
				for range 2 {
					who := g.up().opens(0)
					x := g.stores[who].Report().Head
					if x.Root != want.root || x.Seq != want.seq {
						g.fails("W3: %s: %v at access %d: %d batches are shown, not %d", s.name, c, at, x.Seq, want.seq)
					}
					g.does(who, scan(all, 4096), root(), history())
					for key := range planted() {
						g.does(who, get(key), prove(key))
					}
				}
				who := len(g.stores) - 1
				for _, change := range batch {
					if change.Gone {
						g.does(who, deletes(string(change.Key)))
					} else {
						g.does(who, lays(string(change.Key), string(change.Value)))
					}
				}
				if answer, e := g.do(who, commit()); answer != then.root || e != api.OK {
					g.fails("W3: the batch again: %s, %d", brief(answer), e)
				}
				g.does(who, scan(all, 4096), scrubs(99), sweeps())
			}
		}
	}
}

// lastAppend tells which one of some accesses is the last one that appends.
func lastAppend(accesses []string) int {
	last := -1
	for i, a := range accesses {
		if a == "append" {
			last = i
		}
	}
	return last
}

// W3: a crash and a torn write at each access of an opening, behind a commit that went down too.
func TestCrashesOfAnOpening(t *testing.T) {
	for _, first := range []api.Choice{{Kind: api.Crash}, {Kind: api.After}, {Kind: api.Torn, N: 40}} {
		for at := range 6 {
			for _, c := range downs(111) {
				for _, room := range []int{500, 60000} {
					r := lay(t, 9, room, 256, 256)
					r.opens(4)
					r.does(0, lays("k", long+"1"), commit(), lays("k", long+"2"))
					r.choose(honest(3, first)...)
					r.refuses("23.3", 0, commit(), api.ErrDown, "reg get- put append-")
					batch := first.Kind == api.After
					r.up().choose(honest(at, c)...)
					r.open(0)
					r.up().choose()
					for range 2 {
						who := r.opens(4)
						if x := r.stores[who].Report().Head; (x.Seq == 2) != batch {
							r.fails("W3: %v at access %d of an opening: %d batches are shown", c, at, x.Seq)
						}
						r.does(who, get("k"), scan(all, 9), history())
					}
				}
			}
		}
	}
}

// W3: crashes of any call, at any access, again and again; then the device is up, and an opening without one succeeds. (No store goes
// on over a crash: an opening that was torn leaves bytes in the log which an opening alone cuts off.)
func TestHonestCrashes(t *testing.T) {
	seen := tally{}
	for seed := range rounds(400) {
		rnd := rand.New(rand.NewSource(int64(seed)))
		r := lay(t, some(rnd, []int{400, 20}), 3*16391, 256, 256)
		keys := someKeys(rnd)
		for range 5 {
			r.wander(rnd, plan{steps: 20, often: 1 + rnd.Intn(7), kinds: crashes(), end: true}, keys)
			r.up().choose()
			who, e := r.open(some(rnd, []int{0, 4, 256}))
			if e != api.OK {
				r.fails("W3: Open answers %d", e)
			}
			r.does(who, scan(all, 4096), root())
			a, _ := r.do(who, scrubs(4096))
			if pass := a.(api.Pass); pass.Bad > 0 || pass.Seen != len(r.nodesOf(r.truth.now.entries)) {
				r.fails("W3: a pass is %+v", pass)
			}
			r.does(who, lays("k", someValue(rnd)))
			if _, e := r.do(who, commit()); e != api.OK && e != api.ErrFull {
				r.fails("W2: Commit answers %d", e)
			}
		}
		seen.add(r.truth)
	}
	seen.wants(t, rounds(60), "a commit that went down is there", "a commit that went down is not there", "Commit 3", "Commit 0")
}

// What the words say where a store goes on over a crash that met a later opening: it is not fenced, as the register was not set, and its
// commit stands behind the torn end, which it has no access to cut off. So the next opening does not find it: ErrStale, and nothing
// wrong is shown. (Torn ahead of the first byte, or behind the last one, it is found.)
func TestAStoreThatGoesOnOverATornOpening(t *testing.T) {
	for n, want := range map[int]api.Errno{0: api.OK, 1: api.ErrStale, 40: api.ErrStale, 110: api.ErrStale, 111: api.OK} {
		g := layGarden(t, 64, 60000, 8)
		g.choose(honest(2, api.Choice{Kind: api.Torn, N: n})...)
		g.wantsOpen("23.1", 8, api.ErrDown, "reg read append-")
		g.up().does(0, lays("k", "v"), commit(), get("k"))
		if _, e := g.open(8); e != want {
			t.Errorf("23.1: behind %d bytes of a record: %d, not %d", n, e, want)
		}
	}
}

// A commit that was refused with another error than ErrDown never comes back, whatever crashes come then.
func TestRefusedCommitsNeverComeBack(t *testing.T) {
	for _, how := range []string{"a lost node", "no slot", "no room", "stale"} {
		for at := range 6 {
			slots, room := 64, 60000
			switch how {
			case "no slot":
				slots = 9
			case "no room":
				room = 700
			}
			g := layGarden(t, slots, room, 0)
			want := api.ErrFull
			value := long + "!"
			switch how {
			case "a lost node":
				g.choose(honest(2, choice(api.Drop, 0))...)
				want = api.ErrNode
			case "no room":
				for range 31 {
					g.does(0, lays("\x22\x33", strings.Repeat("v", 99)))
				}
			case "stale":
				g.opens(0)
				want = api.ErrStale
			}
			g.does(0, lays("\x22\x33", value))
			if _, e := g.do(0, commit()); e != want {
				t.Errorf("23.8: %s: %d", how, e)
			}
			g.choose(honest(at, choice(api.After, 0))...)
			g.open(0)
			g.up().choose()
			who := g.opens(0)
			g.does(who, scan(all, 9), get("\x22\x33"))
			g.is("W3: "+how, who, state{count: g.truth.count, seq: 1, cached: 0}, g.truth.now.root, false)
			if g.truth.now.root != g.hashes["top"] {
				t.Errorf("W3: %s: it came back", how)
			}
		}
	}
}
