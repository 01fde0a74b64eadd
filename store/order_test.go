package store_test

import (
	"strings"
	"testing"

	"cairn/api"
	"cairn/media"
	"cairn/store"
)

// Every call of a nil store, whatever it is handed.
func TestNilStore(t *testing.T) {
	var s *store.Store
	for _, a := range append(every(), wrong()...) {
		if got, e := a.do(&hand{}, s); got != a.zero || e != api.ErrHandle {
			t.Errorf("23.2: %s of a nil store: %s, %d", a.name, brief(got), e)
		}
	}
	if got := reported(s); got != report().zero {
		t.Errorf("23.2: Report of a nil store: %s", got)
	}
	if e := s.Repair(nil); e != api.ErrHandle {
		t.Errorf("23.2: %d", e)
	}
}

// fall is a way in which a store fails.
type fall struct {
	name  string
	e     api.Errno
	fails func(r *rig)
}

func falls() []fall {
	return []fall{
		{"the register has moved on", api.ErrStale, func(r *rig) {
			r.aside("the register is set", func(d *media.Device) { d.SetReg(api.Register{Count: 99}) })
			r.refuses("W6", 0, root(), api.ErrStale, "reg")
		}},
		{"the device is down", api.ErrDown, func(r *rig) {
			r.goesDown().refuses("W6", 0, root(), api.ErrDown, "")
			r.up()
		}},
		{"a crash at the look", api.ErrDown, func(r *rig) {
			r.choose(choice(api.Crash, 0))
			r.refuses("W6", 0, root(), api.ErrDown, "reg-")
			r.up()
		}},
		{"a crash behind the look", api.ErrDown, func(r *rig) {
			r.choose(choice(api.After, 0))
			r.refuses("W6", 0, root(), api.ErrDown, "reg-")
			r.up()
		}},
		{"a crash amid a reading", api.ErrDown, func(r *rig) {
			r.choose(honest(2, choice(api.Crash, 0))...)
			r.refuses("W6", 0, get("\x11\x11"), api.ErrDown, "reg get get-")
			r.up()
		}},
		{"the log has lost the head", api.ErrStale, func(r *rig) {
			r.aside("the log is cut", func(d *media.Device) { d.Cut(9) })
			r.refuses("W6", 0, history(), api.ErrStale, "reg read")
		}},
	}
}

// A store that has failed: every call but Report answers so, whatever it is handed and whatever else is wrong, and makes no access;
// Report tells what it told ahead of that, and that it has failed.
func TestFailedStore(t *testing.T) {
	for _, f := range falls() {
		g := layGarden(t, 64, 60000, 0)
		for range api.MaxBatch {
			g.does(0, lays("k", "v"))
		}
		g.choose(honest(1, choice(api.Drop, 0))...)
		g.refuses("23.4", 0, get(""), api.ErrNode, "reg get-")
		f.fails(g.rig)
		was := g.d.Accesses()
		for range 2 {
			for _, a := range append(every(), wrong()...) {
				g.refuses("23.2: "+f.name, 0, a, api.ErrFailed, "")
			}
			g.refuses("23.2: "+f.name, 0, repair(""), api.ErrFailed, "")
			quarantine := 1
			if f.name == "a crash amid a reading" { // the root was read again
				quarantine = 0
			}
			g.is("23.11: "+f.name, 0, state{count: 2, seq: 1, staged: 32, quarantine: quarantine}, g.hashes["top"], true)
			g.goesDown() // a device that is down changes nothing
		}
		if got := g.d.Accesses(); len(got) != len(was)+1 {
			t.Errorf("23.2: %s: %d accesses", f.name, len(got)-len(was))
		}
		g.up()
		if f.e == api.ErrStale { // the log does not hold what the register stands for
			g.wantsOpen("W6: "+f.name, 0, api.ErrStale, "reg read")
			continue
		}
		g.wantsOpen("W6: an opening begins anew", 0, api.OK, "reg read append setreg")
		g.is("W6: an opening begins anew", 1, state{count: 3, seq: 1}, g.hashes["top"], false)
		g.does(1, get("\x11\x11"))
		g.refuses("W6: the earlier one is as it was", 0, get("\x11\x11"), api.ErrFailed, "")
	}
}

// What a call itself refuses is told ahead of the look: no access is made, a device that is down and a register that has moved on are
// not met, and the store is as able as it was.
func TestWrongInputAheadOfTheLook(t *testing.T) {
	for _, how := range []string{"well", "down", "stale"} {
		for _, full := range []bool{false, true} {
			g := layGarden(t, 64, 60000, 8)
			want := state{count: 2, seq: 1, cached: 8}
			if full {
				for range api.MaxBatch {
					g.does(0, deletes("k"))
				}
				want.staged = api.MaxBatch
			}
			switch how {
			case "down":
				g.goesDown()
			case "stale":
				g.aside("the register is set", func(d *media.Device) { d.SetReg(api.Register{Count: 99, Tag: api.Hash{1}}) })
			}
			for _, a := range wrong() {
				g.refuses("23.2: "+how, 0, a, api.ErrInput, "")
			}
			if full {
				for _, a := range []ask{lays("k", "v"), deletes("k"), lays("", "v"), deletes("")} {
					g.refuses("23.2: "+how, 0, a, api.ErrBatch, "")
				}
			}
			x := g.stores[0].Report()
			if got := (state{x.Head.Count, x.Head.Seq, x.Staged, x.Cached, len(x.Quarantine)}); got != want || x.Failed {
				t.Errorf("23.3: %s: %+v", how, x)
			}
			switch _, e := g.do(0, root()); {
			case how == "well" && e != api.OK, how == "down" && e != api.ErrDown, how == "stale" && e != api.ErrStale:
				t.Errorf("23.2: %s: the look answers %d", how, e)
			}
		}
	}
}

// Which calls look, and which make no access: at a device that is down, at one that goes down at the look, and behind a register that
// has moved on.
func TestWhoLooks(t *testing.T) {
	for _, how := range []string{"down", "crash", "after", "stale"} {
		for _, a := range every() {
			g := layGarden(t, 64, 60000, 8)
			g.does(0, lays("k", "v"))
			want, accesses := api.ErrDown, "reg-"
			switch how {
			case "down":
				g.goesDown()
				accesses = ""
			case "crash":
				g.choose(choice(api.Crash, 0))
			case "after":
				g.choose(choice(api.After, 0))
			case "stale": // by the counter alone
				tag := g.stores[0].Report().Head.Tag
				g.aside("the counter moves", func(d *media.Device) { d.SetReg(api.Register{Count: 3, Tag: tag}) })
				want, accesses = api.ErrStale, "reg"
			}
			if !a.looks {
				if made := g.made(func() { g.does(0, a) }); made != "" {
					t.Errorf("23.7: %s: %s makes accesses: %s", how, a.name, made)
				}
				continue
			}
			g.refuses("23.2: "+how, 0, a, want, accesses)
			g.is("23.3: "+how, 0, state{count: 2, seq: 1, staged: 1, cached: 8}, g.hashes["top"], true)
			g.refuses("23.3: "+how, 0, a, api.ErrFailed, "")
		}
	}
}

// The look comes ahead of all else that a call finds: bytes that are no node, a batch that can't be done, a lost node.
func TestLookAheadOfOtherErrors(t *testing.T) {
	for _, a := range []ask{repair(""), repair("\x80"), repair(strings.Repeat("x", 2000)), commit(), get(""), sweeps(), scrubs(9), history()} {
		g := layGarden(t, 64, 60000, 0)
		g.aside("all is lost", func(d *media.Device) {
			for _, h := range g.by(inOrder) {
				d.Delete(h)
			}
			d.Cut(0)
			d.SetReg(api.Register{Count: 9})
		})
		g.does(0, lays("k", "v"))
		g.refuses("23.2", 0, a, api.ErrStale, "reg")
	}
}

// An access is the one look of each call, also where nothing else is asked of the device.
func TestOneLookForEachCall(t *testing.T) {
	r := roomy(t)
	r.opens(8)
	for _, a := range []ask{get(""), scan(all, 9), prove("k"), proveSpan(all), root(), scrubs(1)} {
		if made := r.made(func() { r.does(0, a) }); made != "reg" {
			t.Errorf("23.2: %s over the empty trie makes %q", a.name, made)
		}
	}
	r.refuses("23.10", 0, repair("no node"), api.ErrShape, "reg")
	r.refuses("23.10", 0, repair(leaf("", "v")), api.ErrUnwanted, "reg")
	r.wants("23.10", 0, sweeps(), api.Swept{}, "reg list")
	r.wants("23.8", 0, commit(), emptyRoot(256), "reg append setreg")
	if made := r.made(func() { r.does(0, history()) }); made != "reg read" {
		t.Errorf("23.9: History makes %q", made)
	}
}

// All other errors leave a store as able as it was.
func TestErrorsThatDoNotFail(t *testing.T) {
	g := layGarden(t, 9, 900, 0)
	g.aside("a leaf is lost", func(d *media.Device) { d.Delete(g.hashes["b"]) })
	g.does(0, lays("\x11\x12", long))
	wants := map[api.Errno][]ask{
		api.ErrNode:     {get("\x11\x12"), scan(all, 9), prove("\x11\x12"), proveSpan(all), commit(), sweeps()},
		api.ErrShape:    {repair("")},
		api.ErrUnwanted: {repair(g.nodes["a"])},
		api.ErrInput:    wrong(),
	}
	for _, want := range []api.Errno{api.ErrNode, api.ErrShape, api.ErrUnwanted, api.ErrInput} {
		for _, a := range wants[want] {
			if _, e := g.do(0, a); e != want {
				t.Errorf("23.3: %s: %d, not %d", a.name, e, want)
			}
			g.does(0, root())
		}
	}
	g.does(0, abort(), repair(g.nodes["b"]), lays("\x11\x12", long+"!"))
	g.refuses("23.8: no slot", 0, commit(), api.ErrFull, words("reg", times(4, "get"), "get- put get- put-", times(8, "get"), "list get- put-"))
	g.does(0, root(), abort())
	for range 3 {
		g.does(0, lays("k", strings.Repeat("v", 250)))
	}
	g.does(0, deletes("k"))
	g.refuses("23.8: no room in the log", 0, commit(), api.ErrFull, "reg get get append- read trim append-")
	g.is("23.3", 0, state{count: 2, seq: 1, staged: 4}, g.hashes["top"], false)
	for range 29 {
		g.do(0, lays("k", "v"))
	}
	g.does(0, root(), get("\x11\x12"), abort(), lays("\x22\x33", "short"), deletes("\x21"), commit(), history())
}
