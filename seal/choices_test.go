package seal_test

import (
	"strings"
	"testing"

	"cairn/api"
	"cairn/media"
)

// scene is a device with its sessions, and a call that is made then.
type scene struct {
	name  string
	lay   func(t *testing.T) *rig
	call  func(r *rig) api.Errno
	calls string // the accesses that it makes if all is honest
}

// atOpen tells scenes of openings.
func atOpen() []scene {
	open := func(r *rig) api.Errno {
		_, _, e := r.open()
		return e
	}
	over := func(kinds string, at int, tail string, room int) func(t *testing.T) *rig {
		return func(t *testing.T) *rig {
			r := newRig(t, 256)
			c := r.chain(r.beginning(), kinds)
			reg := api.Register{}
			if at > 0 {
				reg = c.reg(at)
			}
			log := c.all() + tail
			if room == 0 {
				return r.load(len(log), log, reg)
			}
			return r.load(room, log, reg)
		}
	}
	return []scene{
		{"open an empty device", over("", 0, "", 900), open, "reg read append setreg"},
		{"open at the beginning with rubbish", over("", 0, "rubbish", 900), open, "reg read cut append setreg"},
		{"open", over("oc", 2, "", 900), open, "reg read append setreg"},
		{"open and take a commit", over("occ", 2, "", 900), open, "reg read append setreg"},
		{"open and cut", over("oc", 2, "rubbish", 900), open, "reg read cut append setreg"},
		{"open, take a commit and cut", over("occo", 2, "x", 900), open, "reg read cut append setreg"},
		{"open and trim", over("oc", 2, "", 0), open, "reg read append- trim append setreg"},
		{"open, cut and trim", over("oc", 2, "x", 0), open, "reg read cut append- trim append setreg"},
		{"open a full log", over("o", 1, "", 0), open, "reg read append-"},
		{"open a stale log", func(t *testing.T) *rig {
			r := over("oc", 2, "", 900)(t)
			r.aside("the log is cut", func(d *media.Device) { d.Cut(200) })
			return r
		}, open, "reg read"},
	}
}

// atSession tells scenes of a session's calls.
func atSession() []scene {
	commit := func(changes ...api.Change) func(r *rig) api.Errno {
		return func(r *rig) api.Errno {
			_, e := r.commit(len(r.logs)-1, root(20), changes...)
			return e
		}
	}
	after := func(room, commits int) func(t *testing.T) *rig {
		return func(t *testing.T) *rig {
			r := lay(t, room, 256)
			who := r.opens()
			for i := range commits {
				r.commits(who, root(i))
			}
			return r
		}
	}
	check := func(r *rig) api.Errno { return r.check(len(r.logs) - 1) }
	history := func(r *rig) api.Errno {
		_, e := r.history(len(r.logs) - 1)
		return e
	}
	return []scene{
		{"commit", after(900, 1), commit(put("a", "1")), "append setreg"},
		{"commit and trim", after(2*openedFrame, 3), commit(), "append- read trim append setreg"},
		{"commit and trim in vain", after(2*openedFrame, 3), commit(put("a", "1")), "append- read trim append-"},
		{"commit to a full log", after(openedFrame, 0), commit(), "append- read"},
		{"check", after(900, 2), check, "reg"},
		{"history", after(900, 2), history, "read"},
		{"history behind a trim", after(2*openedFrame, 4), history, "read"},
	}
}

func scenes() []scene { return append(atOpen(), atSession()...) }

// aftermath asks all that can be asked behind a call, of each session, then with the device up again, and opens anew.
func (r *rig) aftermath() {
	r.t.Helper()
	for range 2 {
		for who := range r.logs {
			r.check(who)
			r.history(who)
			r.commit(who, root(40+who), put("b", "2"))
			r.check(who)
		}
		r.up()
	}
	for range 2 {
		if who, _, e := r.open(); e == api.OK {
			r.history(who)
			r.commit(who, root(60), gone("b"))
			r.check(who)
		}
	}
	for who := range r.logs {
		r.commit(who, root(70+who))
		r.check(who)
	}
}

func TestScenes(t *testing.T) {
	for _, s := range scenes() {
		r := s.lay(t)
		if made := r.made(func() { s.call(r) }); made != s.calls {
			t.Errorf("R6: %s: %q, not %q", s.name, made, s.calls)
		}
		r.aftermath()
	}
}

// Each choice, with many numbers, at each access of each call: the model tells what is to be, then and behind it.
func TestEachChoiceAtEachAccess(t *testing.T) {
	numbers := []int{0, 1, 2, 3, 4, 5, 7, 13, 60, 110, 111, 112, 113, 114, 125, 200, 221, 222, 223, 300}
	if testing.Short() {
		numbers = []int{0, 1, 2, 3, 50, 111, 222}
	}
	seen := map[api.Errno]int{}
	for _, s := range scenes() {
		for at := range strings.Fields(s.calls) {
			for kind := range api.Choices {
				for _, n := range numbers {
					r := s.lay(t)
					r.choose(honest(at, choice(kind, n))...)
					seen[s.call(r)]++
					r.aftermath()
				}
			}
		}
	}
	for _, e := range []api.Errno{api.OK, api.ErrDown, api.ErrFull, api.ErrStale} {
		if seen[e] < 20 {
			t.Errorf("20.1: error %d was seen %d times", e, seen[e])
		}
	}
}

// Two choices one behind the other.
func TestPairsOfChoices(t *testing.T) {
	numbers := []int{0, 1, 2, 111}
	if testing.Short() {
		numbers = []int{1}
	}
	for _, s := range scenes() {
		for at := range strings.Fields(s.calls) {
			for one := 1; one < api.Choices; one++ {
				for two := range api.Choices {
					for _, n := range numbers {
						r := s.lay(t)
						r.choose(honest(at, choice(one, n), choice(two, n+1))...)
						s.call(r)
						r.aftermath()
					}
				}
			}
		}
	}
}

// The errors that each choice with the numbers 1 leads to, named one by one: a word for each choice (Honest, Alter, Drop, Replay,
// Rollback, Torn, Crash, After), in it a letter for each access of the call. o is OK, d ErrDown, s ErrStale, f ErrFull.
func TestErrorsOfEachChoice(t *testing.T) {
	letters := map[api.Errno]string{api.OK: "o", api.ErrDown: "d", api.ErrStale: "s", api.ErrFull: "f"}
	want := map[string]string{
		"open an empty device":               "oooo oooo oooo oooo oooo oddo dddd dddd",
		"open at the beginning with rubbish": "ooooo ooooo ooooo ooooo ooooo odddo ddddd ddddd",
		"open":                               "oooo osoo osoo oooo oooo oddo dddd dddd",
		"open and take a commit":             "oooo osoo osoo oooo oooo oddo dddd dddd",
		"open and cut":                       "ooooo osooo osooo ooooo ooooo odddo ddddd ddddd",
		"open, take a commit and cut":        "ooooo osooo osooo ooooo ooooo odddo ddddd ddddd",
		"open and trim":                      "oooooo osoooo osofoo oooooo oooofo oddddo dddddd dddddd",
		"open, cut and trim":                 "ooooooo osooooo osoofoo ooooooo ooooofo odddddo ddddddd ddddddd",
		"open a full log":                    "fff fsf fsf fff fff fdd ddd ddd",
		"open a stale log":                   "ss ss ss so so sd dd dd",
		"commit":                             "oo oo oo oo oo do dd dd",
		"commit and trim":                    "ooooo osooo osfoo osooo osofo ddddo ddddd ddddd",
		"commit and trim in vain":            "ffff fsff fsff fsff ssof dddd dddd dddd",
		"commit to a full log":               "ff fs fs fs os dd dd dd",
		"check":                              "o o o o o o d d",
		"history":                            "o s s s s d d d",
		"history behind a trim":              "o s s s s d d d",
	}
	for _, s := range scenes() {
		var all []string
		for kind := range api.Choices {
			word := ""
			for at := range strings.Fields(s.calls) {
				r := s.lay(t)
				r.choose(honest(at, choice(kind, 1))...)
				word += letters[s.call(r)]
			}
			all = append(all, word)
		}
		if got := strings.Join(all, " "); got != want[s.name] {
			t.Errorf("20.1: %s: %s, not %s", s.name, got, want[s.name])
		}
	}
}

// A place beyond the log: what was read is longer than what is there.
func TestPlacesBeyondTheLog(t *testing.T) {
	r := newRig(t, 256)
	c := r.chain(r.beginning(), "occ")
	r.load(900, c.all()+"rubbish", c.reg(3))
	r.aside("the log is lost", func(d *media.Device) { d.Cut(40) })
	r.choose(honest(1, choice(api.Replay, 1))...)
	r.refusesOpen("Cut beyond the log", api.ErrStale, "reg read cut-")

	r.load(len(c.all()), c.all(), c.reg(3))
	r.aside("the log is lost", func(d *media.Device) { d.Cut(40) })
	r.choose(honest(1, choice(api.Replay, 1), choice(api.Rollback, 1), choice(api.Rollback, 1))...) // it is there, and is lost again
	r.refusesOpen("Trim beyond the log", api.ErrStale, "reg read append- trim-")

	r = lay(t, 3*openedFrame, 256)
	who := r.opens()
	r.commits(who, root(1))
	h := r.commits(who, root(2))
	r.aside("the log is lost", func(d *media.Device) {
		d.Trim(openedFrame + 120)
		d.Append(make([]byte, 119))
	})
	r.choose(honest(1, choice(api.Replay, 2))...)
	r.refusesCommit("Trim beyond the log", who, greatest(), api.ErrStale, "append- read trim-")
	r.failed("Trim beyond the log", who, h)
}
