package sweep_test

import (
	"slices"
	"strings"
	"testing"

	"cairn/api"
)

// scene is a device with its store, and a sweep that is made then.
type scene struct {
	name  string
	lay   func(t *testing.T) *orchard
	keep  func(o *orchard) []api.Hash
	roots func(o *orchard) []api.Hash
	calls string // the accesses that it makes if all is honest
}

// past gives the device a past: blobs under some keys that were other ones, or were lost.
func (o *orchard) past() *orchard {
	o.put(key(0x21), "gone by now")
	o.put(o.two.keys[1], "an earlier string")
	o.put(o.two.keys[1], string(o.two.blobs[1].Data))
	o.lose(key(0x21))
	o.put(key(0x22), "a later one")
	o.strays = append(o.strays, key(0x22))
	return o
}

// warm has the store read what the device has, and what it has not.
func (o *orchard) warm() *orchard {
	for _, h := range append(o.blobs(), key(0x21), key(0x44)) {
		o.read(h)
	}
	return o
}

func scenes() []scene {
	nothing := func(*orchard) []api.Hash { return nil }
	both := func(o *orchard) []api.Hash { return []api.Hash{o.one.root, o.two.root} }
	latter := func(o *orchard) []api.Hash { return []api.Hash{o.two.root} }
	mixed := func(o *orchard) []api.Hash { return join(o.strays[:1], o.one.keys[:2], []api.Hash{key(0x44)}) }
	cold := func(cache int) func(t *testing.T) *orchard {
		return func(t *testing.T) *orchard { return layOrchard(t, 256, cache).past() }
	}
	warm := func(cache int) func(t *testing.T) *orchard {
		return func(t *testing.T) *orchard { return layOrchard(t, 256, cache).past().warm() }
	}
	return []scene{
		{"no root", cold(0), nothing, nothing, accesses(0, 15)},
		{"no root, some kept", cold(0), mixed, nothing, accesses(0, 12)},
		{"one root", cold(0), nothing, latter, accesses(9, 6)},
		{"both roots, some kept", cold(3), mixed, both, accesses(11, 3)},
		{"one root, all in the cache", warm(256), nothing, latter, accesses(0, 6)},
		{"one root, some in the cache", warm(4), mixed, latter, accesses(8, 4)},
		{"no root, all in the cache", warm(256), nothing, nothing, accesses(0, 15)},
	}
}

// run makes a scene's sweep.
func (s scene) run(o *orchard) outcome {
	o.t.Helper()
	return o.sweep(s.keep(o), s.roots(o)...)
}

// aftermath goes on behind a sweep: the device up again, all is read and swept once more.
func (o *orchard) aftermath() {
	o.t.Helper()
	o.mark(o.two.root)
	o.up()
	o.mark(o.two.root)
	o.sweep(o.strays[:1], o.two.root)
	for _, h := range join(o.two.keys, o.strays, []api.Hash{key(0x21)}) {
		o.read(h)
	}
	o.sweep(nil, o.two.root, o.one.root)
	o.sweep(o.two.keys)
}

func TestScenes(t *testing.T) {
	for _, s := range scenes() {
		o := s.lay(t)
		if made := o.made(func() { s.run(o) }); made != s.calls {
			t.Errorf("R6: %s: %q, not %q", s.name, made, s.calls)
		}
		o.aftermath()
	}
}

// Each choice, with many numbers, at each access of each sweep: the model tells what is to be, then and behind it.
func TestEachChoiceAtEachAccess(t *testing.T) {
	numbers := []int{0, 1, 2, 3, 4, 5, 7, 13, 31, 32, 64, 100, 255, 256, 300}
	if testing.Short() {
		numbers = []int{0, 1, 3, 40}
	}
	seen := map[api.Errno]int{}
	for _, s := range scenes() {
		for at := range strings.Fields(s.calls) {
			for kind := range api.Choices {
				for _, n := range numbers {
					o := s.lay(t)
					o.choose(honest(at, choice(kind, n))...)
					seen[s.run(o).e]++
					o.aftermath()
				}
			}
		}
	}
	for _, e := range []api.Errno{api.OK, api.ErrDown, api.ErrNode} {
		if seen[e] < 20 {
			t.Errorf("21.2: error %d was seen %d times", e, seen[e])
		}
	}
}

// Two choices one behind the other.
func TestPairsOfChoices(t *testing.T) {
	numbers := []int{0, 1, 34}
	if testing.Short() {
		numbers = []int{1}
	}
	for _, s := range scenes() {
		calls := strings.Fields(s.calls)
		if testing.Short() && len(calls) > 9 {
			continue
		}
		for at := range calls {
			for one := 1; one < api.Choices; one++ {
				for two := range api.Choices {
					for _, n := range numbers {
						o := s.lay(t)
						o.choose(honest(at, choice(one, n), choice(two, n+1))...)
						s.run(o)
						o.look()
					}
				}
			}
		}
	}
}

// The errors that each choice with the numbers 1 leads to, named one by one: a word for each choice (Honest, Alter, Drop, Replay,
// Rollback, Torn, Crash, After), in it a letter for each access of the sweep. o is OK, d ErrDown, n ErrNode. (One of the keys that
// are read has an earlier version, which is wrong; the rollback takes away a stray.)
func TestErrorsOfEachChoice(t *testing.T) {
	letters := map[api.Errno]string{api.OK: "o", api.ErrDown: "d", api.ErrNode: "n"}
	want := map[string]string{
		"no root":                     "oooooooooooooooo oooooooooooooooo oooooooooooooooo oooooooooooooooo oooooooooooooooo dddddddddddddddd dddddddddddddddd dddddddddddddddd",
		"no root, some kept":          "ooooooooooooo ooooooooooooo ooooooooooooo ooooooooooooo ooooooooooooo ddddddddddddd ddddddddddddd ddddddddddddd",
		"one root":                    "oooooooooooooooo nnnnnnnnnooooooo nnnnnnnnnooooooo ooonoooooooooooo oooooooooooooooo dddddddddddddddd dddddddddddddddd dddddddddddddddd",
		"both roots, some kept":       "ooooooooooooooo nnnnnnnnnnnoooo nnnnnnnnnnnoooo ooooonooooooooo ooooooooooooooo ddddddddddddddd ddddddddddddddd ddddddddddddddd",
		"one root, all in the cache":  "ooooooo ooooooo ooooooo ooooooo ooooooo ddddddd ddddddd ddddddd",
		"one root, some in the cache": "ooooooooooooo nnnnnnnnooooo nnnnnnnnooooo oonoooooooooo ooooooooooooo ddddddddddddd ddddddddddddd ddddddddddddd",
		"no root, all in the cache":   "oooooooooooooooo oooooooooooooooo oooooooooooooooo oooooooooooooooo oooooooooooooooo dddddddddddddddd dddddddddddddddd dddddddddddddddd",
	}
	for _, s := range scenes() {
		var words []string
		for kind := range api.Choices {
			word := ""
			for at := range strings.Fields(s.calls) {
				o := s.lay(t)
				o.choose(honest(at, choice(kind, 1))...)
				word += letters[s.run(o).e]
			}
			words = append(words, word)
		}
		if got := strings.Join(words, " "); got != want[s.name] {
			t.Errorf("21.2: %s: %s, not %s", s.name, got, want[s.name])
		}
	}
}

// Whatever is chosen at the readings and at the List, all that is marked or kept and was there is there behind the sweep: what
// the device does at a Delete is honest here, so each one that is asked for is seen.
func TestNeverTooMuch(t *testing.T) {
	numbers := []int{0, 1, 2, 5, 31, 32, 33, 64, 96, 200, 300}
	if testing.Short() {
		numbers = []int{0, 33}
	}
	for _, s := range scenes() {
		calls := strings.Fields(s.calls)
		for at := range slices.Index(calls, "list") + 1 {
			for kind := range api.Choices {
				if kind == api.Rollback {
					continue // it takes away what it likes
				}
				for _, n := range numbers {
					o := s.lay(t)
					spared := s.keep(o)
					for _, root := range s.roots(o) {
						if root == o.one.root {
							spared = join(spared, o.one.keys)
						} else {
							spared = join(spared, o.two.keys)
						}
					}
					was := o.d.Media().Blobs
					o.choose(honest(at, choice(kind, n))...)
					got := s.run(o)
					now := o.d.Media().Blobs
					for _, b := range was {
						same := func(x api.Blob) bool { return x.Key == b.Key && string(x.Data) == string(b.Data) }
						if slices.Contains(spared, b.Key) && !slices.ContainsFunc(now, same) {
							t.Fatalf("21.3: %s: %x is gone over the choice %d at access %d", s.name, b.Key, kind, at)
						}
					}
					if got.e != api.OK && len(now) != len(was) {
						t.Fatalf("21.6: %s: error %d, and something was deleted", s.name, got.e)
					}
				}
			}
		}
	}
}
