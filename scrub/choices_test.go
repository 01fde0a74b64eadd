package scrub_test

import (
	"strings"
	"testing"

	"cairn/api"
)

// scene is a garden, and a step that is made in it.
type scene struct {
	name  string
	lay   func(t *testing.T) *garden
	root  string
	ahead int // looked at ahead of the step
	n     int
	calls string // the accesses that it makes if all is honest
}

// past gives the device a past: blobs under some keys that were other ones, or were lost.
func (g *garden) past() *garden {
	g.put(g.hashes["mid"], "an earlier string")
	g.put(g.hashes["mid"], g.nodes["mid"])
	g.lose(g.hashes["fork"])
	g.put(g.hashes["fork"], g.nodes["fork"])
	g.put(key(1), "a stray")
	return g
}

// warm has the store read what the device has, and what it has not.
func (g *garden) warm() *garden {
	for _, h := range append(g.by("low fork top left"), key(1), key(2)) {
		g.read(h)
	}
	return g
}

func scenes() []scene {
	cold := func(t *testing.T) *garden { return layGarden(t, 256, 0).past() }
	warm := func(t *testing.T) *garden { return layGarden(t, 256, 3).past().warm() }
	broken := func(t *testing.T) *garden {
		g := layGarden(t, 256, 0).past()
		g.lose(g.hashes["over"])
		g.put(g.hashes["left"], "altered")
		return g
	}
	return []scene{
		{"a whole pass", cold, "top", 0, 9, gets(7)},
		{"beside a cache", warm, "top", 0, 4096, gets(7)},
		{"the first few", cold, "top", 0, 3, gets(3)},
		{"amid a pass", warm, "top", 2, 4, gets(4)},
		{"the last one", cold, "top", 6, 1, gets(1)},
		{"some are bad", broken, "top", 0, 9, "get get- " + gets(5)},
		{"some are bad, amid it", broken, "top", 1, 3, "get- " + gets(2)},
		{"from an extension", warm, "over", 0, 9, gets(4)},
		{"a leaf", cold, "low", 0, 1, gets(1)},
	}
}

// run makes a scene's step, with choices for it.
func (s scene) run(g *garden, choices ...api.Choice) (*tour, api.Errno) {
	g.t.Helper()
	p := g.begin(g.hashes[s.root])
	if s.ahead > 0 {
		p.step(s.ahead)
	}
	g.choose(choices...)
	_, e := p.step(s.n)
	return p, e
}

// aftermath goes on behind a step: the pass to its end, repairs of all that waits, and a pass anew.
func (g *garden) aftermath(p *tour) {
	g.t.Helper()
	p.step(1)
	g.up().choose()
	p.step(2)
	p.through(4096)
	for _, name := range []string{"top", "over", "mid", "left", "fork", "low", "right"} {
		g.repair(g.nodes[name])
	}
	g.begin(g.hashes["top"]).through(3)
}

func TestScenes(t *testing.T) {
	for _, s := range scenes() {
		g := s.lay(t)
		p := g.begin(g.hashes[s.root])
		if s.ahead > 0 {
			p.step(s.ahead)
		}
		if made := g.made(func() { p.step(s.n) }); made != s.calls {
			t.Errorf("R6: %s: %q, not %q", s.name, made, s.calls)
		}
		g.aftermath(p)
	}
}

// Each choice, with many numbers, at each access of each step: the model tells what is to be, then and behind it.
func TestEachChoiceAtEachAccess(t *testing.T) {
	numbers := []int{0, 1, 2, 3, 4, 5, 7, 13, 31, 32, 64, 100, 255, 256, 300}
	if testing.Short() {
		numbers = []int{0, 1, 3, 40}
	}
	for _, s := range scenes() {
		for at := range strings.Fields(s.calls) {
			for kind := range api.Choices {
				for _, n := range numbers {
					g := s.lay(t)
					p, _ := s.run(g, honest(at, choice(kind, n))...)
					g.aftermath(p)
				}
			}
		}
	}
}

// Two choices one behind the other.
func TestPairsOfChoices(t *testing.T) {
	numbers := []int{0, 1, 34}
	if testing.Short() {
		numbers = []int{1}
	}
	for _, s := range scenes() {
		for at := range strings.Fields(s.calls) {
			for one := 1; one < api.Choices; one++ {
				for two := range api.Choices {
					for _, n := range numbers {
						g := s.lay(t)
						p, _ := s.run(g, honest(at, choice(one, n), choice(two, n+1))...)
						g.aftermath(p)
					}
				}
			}
		}
	}
}

// What each choice with the numbers 1 leads to, named one by one: a word for each choice (Honest, Alter, Drop, Replay, Rollback,
// Torn, Crash, After), in it a letter for each access of the step: d for ErrDown, else how many are bad then. (The first version
// of "mid" is right, the second wrong, and so is that of "left" where it is altered; that of "over", where it is lost, is right. The
// rollback takes away a stray, or makes "left" right again, if it comes ahead of its reading.)
func TestWhatEachChoiceLeadsTo(t *testing.T) {
	want := map[string]string{
		"a whole pass":          "0000000 1111111 1111111 0010000 0000000 ddddddd ddddddd ddddddd",
		"beside a cache":        "0000000 1111111 1111111 0010000 0000000 ddddddd ddddddd ddddddd",
		"the first few":         "000 111 111 001 000 ddd ddd ddd",
		"amid a pass":           "0000 1111 1111 1000 0000 dddd dddd dddd",
		"the last one":          "0 1 1 0 0 d d d",
		"some are bad":          "2222222 1232333 1232333 2132222 1111222 ddddddd ddddddd ddddddd",
		"some are bad, amid it": "222 232 232 132 111 ddd ddd ddd",
		"from an extension":     "0000 1111 1111 0000 0000 dddd dddd dddd",
		"a leaf":                "0 1 1 0 0 d d d",
	}
	for _, s := range scenes() {
		var words []string
		for kind := range api.Choices {
			word := ""
			for at := range strings.Fields(s.calls) {
				p, e := s.run(s.lay(t), honest(at, choice(kind, 1))...)
				switch e {
				case api.OK:
					word += string(rune('0' + p.x.Pass().Bad))
				case api.ErrDown:
					word += "d"
				default:
					word += "?"
				}
			}
			words = append(words, word)
		}
		if got := strings.Join(words, " "); got != want[s.name] {
			t.Errorf("22.2: %s: %s, not %s", s.name, got, want[s.name])
		}
	}
}
