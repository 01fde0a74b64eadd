package store_test

import (
	"strings"
	"testing"

	"cairn/api"
	"cairn/media"
)

// scene is a garden, and a call that is made in it.
type scene struct {
	name  string
	lay   func(t *testing.T) *garden
	call  func(g *garden) api.Errno
	calls string // the accesses that it makes if all is honest
	words string // what each choice with the numbers 1 leads to
}

// past gives the device a past: under some keys other bytes stood, or nothing; and the map was another one, too.
func (g *garden) past() *garden {
	g.t.Helper()
	g.aside("a past", func(d *media.Device) {
		d.Put(g.hashes["fork"], []byte("an earlier string"))
		d.Put(g.hashes["fork"], []byte(g.nodes["fork"]))
		d.Delete(g.hashes["d"])
		d.Put(g.hashes["d"], []byte(g.nodes["d"]))
	})
	g.does(0, lays("\x22\x33", long+"1"), commit(), lays("\x22\x33", long+"D"), commit())
	return g
}

func scenes() []scene {
	in := func(slots, room, cache int, then ...ask) func(t *testing.T) *garden {
		return func(t *testing.T) *garden {
			return &garden{rig: layGarden(t, slots, room, cache).past().does(0, then...), nodes: gardenNodes(long + "D")}
		}
	}
	at := func(a ask) func(g *garden) api.Errno {
		return func(g *garden) api.Errno {
			_, e := g.do(0, a)
			return e
		}
	}
	waiting := func(t *testing.T) *garden {
		g := in(64, 60000, 0)(t)
		g.choose(honest(2, choice(api.Drop, 0))...)
		g.do(0, get("\x21"))
		return g
	}
	full := func(t *testing.T) *garden {
		g := in(11, 60000, 0, lays("\x22\x33", long+"2"))(t)
		return g
	}
	three := "get- put get- put get- put append setreg"
	return []scene{
		{"open", in(64, 60000, 0), func(g *garden) api.Errno { _, e := g.open(0); return e }, "reg read append setreg",
			"oooo osoo osoo osoo osoo oddo dddd dddd"},
		{"get", in(64, 60000, 0), at(get("\x22\x33")), "reg get get get",
			"oooo onnn onnn oono oooo oddd dddd dddd"},
		{"get what is not there", in(64, 60000, 0), at(get("\x22\x34")), "reg get get get",
			"oooo onnn onnn oono oooo oddd dddd dddd"},
		{"get beside a cache", in(64, 60000, 20), at(get("\x22\x33")), "reg",
			"o o o o o o d d"},
		{"scan", in(64, 60000, 0), at(scan(from("\x11\x12", "\x22"), 9)), "reg get get get get get get",
			"ooooooo onnnnnn onnnnnn ooooono ooooooo odddddd ddddddd ddddddd"},
		{"prove", in(64, 60000, 0), at(prove("\x11\x11")), "reg get get get get",
			"ooooo onnnn onnnn ooooo ooooo odddd ddddd ddddd"},
		{"prove a span", in(64, 60000, 0), at(proveSpan(open("\x21"))), "reg get get get get",
			"ooooo onnnn onnnn oonoo ooooo odddd ddddd ddddd"},
		{"commit", in(64, 60000, 0, lays("\x22\x33", long+"2")), at(commit()), "reg get get get " + three,
			"oooooooooooo onnnoooooooo onnnoooooooo oonooooooooo oooooooooooo oddddddddddo dddddddddddd dddddddddddd"},
		{"commit beside a cache", in(64, 60000, 20, deletes("\x21")), at(commit()), "reg get- put get- put append setreg",
			"ooooooo ooooooo ooooooo ooooooo ooooooo odddddo ddddddd ddddddd"},
		{"commit what was there", in(64, 60000, 20, lays("\x22\x33", long+"1")), at(commit()), "reg get get get append setreg",
			"oooooo oooooo oooooo oooooo oooooo oddddo dddddd dddddd"},
		{"commit nothing", in(64, 60000, 0), at(commit()), "reg append setreg",
			"ooo ooo ooo ooo ooo odo ddd ddd"},
		{"commit to a full log", in(64, 759, 20, lays("", "E")), at(commit()), "reg get- put append- read trim append setreg",
			"oooooooo oooosooo oooosfoo oooooooo oooooofo oddddddo dddddddd dddddddd"},
		{"commit and sweep", full, at(commit()), "reg get get get get- put- " + times(8, "get") + " list delete delete delete " + three,
			"oooooooooooooooooooooooooo onnnoonnnnnnnnfooooooooooo onnnoonnnnnnnnffffoooooooo oonooooonoooooofffoooooooo ooooooooooooooooffffoooooo oddddddddddddddddddddddddo dddddddddddddddddddddddddd dddddddddddddddddddddddddd"},
		{"commit in vain", in(11, 60000, 20, lays("\x22\x33", long+"2"), lays("\xff", long)), at(commit()), "reg get- put- list delete delete delete get- put get- put get- put get- put-",
			"fffffffffffffff fffffffffffffff ffffffffofofoff ffffffffofofoff fffffffffoooooo fdddddddddddddd ddddddddddddddd ddddddddddddddd"},
		{"root", in(64, 60000, 0), at(root()), "reg",
			"o o o o o o d d"},
		{"history", in(64, 60000, 0), at(history()), "reg read",
			"oo os os os os od dd dd"},
		{"repair", waiting, at(repair(gardenNodes(long + "D")["fork"])), "reg put",
			"oo oo oo oo oo od dd dd"},
		{"scrub", in(64, 60000, 20, scrubs(1)), at(scrubs(3)), "reg get get get",
			"oooo oooo oooo oooo oooo oddd dddd dddd"},
		{"sweep", in(64, 60000, 20), at(sweeps()), "reg list delete delete delete",
			"ooooo ooooo ooooo ooooo ooooo odddd ddddd ddddd"},
	}
}

// aftermath asks all that can be asked behind a call, of each store, then with the device up again, and opens anew.
func (r *rig) aftermath() {
	r.t.Helper()
	for _, asks := range [][]ask{
		{get("\x11\x12"), commit()},
		{scrubs(4), history(), lays("\x21", "1"), commit(), sweeps(), scan(all, 9)},
	} {
		for who := range r.stores {
			for _, a := range asks {
				r.do(who, a)
			}
		}
		r.up()
	}
	for range 2 {
		if who, e := r.open(3); e == api.OK {
			for _, a := range []ask{scan(all, 9), lays("\x22\x33", long+"3"), commit(), history()} {
				r.do(who, a)
			}
		}
	}
	for who := range r.stores {
		r.do(who, commit())
	}
}

// run makes a scene's call with choices for it, and asks all that can be asked then.
func (s scene) run(t *testing.T, choices ...api.Choice) {
	t.Helper()
	g := s.lay(t)
	g.choose(choices...)
	g.fell(s, s.call(g))
	g.aftermath()
}

// fell looks that a store has failed just if the call answered so.
func (g *garden) fell(s scene, e api.Errno) {
	g.t.Helper()
	if s.name == "open" {
		return
	}
	if want := e == api.ErrDown || e == api.ErrStale; g.failed(0) != want {
		g.fails("23.3: %s answers %d, failed: %v", s.name, e, !want)
	}
}

func TestScenes(t *testing.T) {
	for _, s := range scenes() {
		g := s.lay(t)
		var e api.Errno
		if made := g.made(func() { e = s.call(g) }); made != s.calls {
			t.Errorf("R6: %s: %q, not %q", s.name, made, s.calls)
		}
		if want := map[bool]api.Errno{true: api.ErrFull}[s.name == "commit in vain"]; e != want {
			t.Errorf("%s answers %d, not %d", s.name, e, want)
		}
		g.fell(s, e)
		g.aftermath()
	}
}

// Each choice, with many numbers, at each access of each call: the model tells what is to be, then and behind it, and the map, while
// the book is sound, what is right.
func TestEachChoiceAtEachAccess(t *testing.T) {
	numbers := []int{0, 1, 2, 3, 8, 64, 111}
	if testing.Short() {
		numbers = []int{1}
	}
	for _, s := range scenes() {
		t.Run(s.name, func(t *testing.T) {
			t.Parallel()
			for at := range strings.Fields(s.calls) {
				for kind := range api.Choices {
					for _, n := range numbers {
						s.run(t, honest(at, choice(kind, n))...)
					}
				}
			}
		})
	}
}

// Two choices one behind the other.
func TestPairsOfChoices(t *testing.T) {
	if testing.Short() {
		return
	}
	for _, s := range scenes() {
		t.Run(s.name, func(t *testing.T) {
			t.Parallel()
			for at := range strings.Fields(s.calls) {
				for one := 1; one < api.Choices; one++ {
					for two := range api.Choices {
						s.run(t, honest(at, choice(one, 1), choice(two, 2))...)
					}
				}
			}
		})
	}
}

// What each choice with the numbers 1 leads to, named one by one: a word for each choice (Honest, Alter, Drop, Replay, Rollback, Torn,
// Crash, After), in it a letter for each access of the call: o is OK, d ErrDown, s ErrStale, f ErrFull, n ErrNode.
func TestWhatEachChoiceLeadsTo(t *testing.T) {
	letters := map[api.Errno]string{api.OK: "o", api.ErrDown: "d", api.ErrStale: "s", api.ErrFull: "f", api.ErrNode: "n"}
	for _, s := range scenes() {
		var all []string
		for kind := range api.Choices {
			word := ""
			for at := range strings.Fields(s.calls) {
				g := s.lay(t)
				g.choose(honest(at, choice(kind, 1))...)
				word += letters[s.call(g)]
			}
			all = append(all, word)
		}
		if got := strings.Join(all, " "); got != s.words {
			t.Errorf("23.2, 23.3: %s: %s, not %s", s.name, got, s.words)
		}
	}
}
