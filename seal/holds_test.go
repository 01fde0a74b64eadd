package seal_test

import (
	"math/rand"
	"slices"
	"strings"
	"testing"

	"cairn/api"
)

// shows is what a head shows of the map.
type shows struct {
	root api.Hash
	seq  int64
}

// truth is what an opening may show: what counts, and beside it what a commit that went down would have made.
type truth struct {
	r      *rig
	counts shows
	maybe  []shows
	last   int // the session that was opened last
	gone   int // how many sessions have ended with the device that they were at
	count  int64
	seen   map[string]int
}

func newTruth(r *rig) *truth {
	return &truth{r: r, counts: shows{root: hashOf(r.bits, "\x80")}, last: -1, seen: map[string]int{}}
}

// grown looks that the counter of a head that is answered is above all those ahead of it: 20.9.
func (x *truth) grown(h api.Head) {
	x.r.t.Helper()
	if h.Count <= x.count {
		x.r.fails("20.9: a head with the count %d behind one with %d", h.Count, x.count)
	}
	x.count = h.Count
}

// open opens, and holds what is shown against what may be: 20.7.
func (x *truth) open() api.Errno {
	x.r.t.Helper()
	sound := x.r.book.Sound()
	who, h, e := x.r.open()
	if e != api.OK || !sound || !x.r.book.Sound() {
		x.seen["refused"]++
		return e
	}
	x.grown(h)
	shown := shows{h.Root, h.Seq}
	switch {
	case shown == x.counts:
		x.seen["what counts"]++
		if len(x.maybe) > 0 {
			x.seen["a commit that went down is not there"]++
		}
	case slices.Contains(x.maybe, shown):
		x.seen["a commit that went down is there"]++
	default:
		x.r.fails("20.7: Open shows %s", brief(h))
	}
	x.counts, x.maybe, x.last = shown, nil, who
	return e
}

// commit commits, and notes what counts then.
func (x *truth) commit(who int, root api.Hash, changes []api.Change) api.Errno {
	x.r.t.Helper()
	next := shows{root, x.r.logs[who].Head().Seq + 1}
	h, e := x.r.commit(who, root, changes...)
	if !x.r.book.Sound() {
		return e
	}
	switch {
	case e == api.OK && (who != x.last || len(x.maybe) > 0):
		x.r.fails("20.10: session %d commits, though %d was opened last", who, x.last)
	case e == api.OK:
		x.grown(h)
		x.counts = next
		x.seen["commits"]++
	case e == api.ErrDown && who == x.last:
		x.maybe = append(x.maybe, next)
	case e == api.ErrStale && who != x.last:
		x.seen["fenced"]++
	}
	return e
}

// wander makes so many calls of chance, at choices of chance of these kinds. If sessions end with the device, none goes on that
// was there ahead of a crash.
func (x *truth) wander(rnd *rand.Rand, steps, often int, kinds []int, end bool) {
	x.r.t.Helper()
	r := x.r
	for step := range steps {
		if rnd.Intn(10) < often {
			choices := honest(rnd.Intn(5))
			for range 1 + rnd.Intn(2) {
				choices = append(choices, api.Choice{Kind: kinds[rnd.Intn(len(kinds))], N: rnd.Intn(1 + rnd.Intn(400)), M: rnd.Intn(300)})
			}
			r.choose(choices...)
		}
		if r.d.Down() && end {
			x.gone = len(r.logs)
		}
		if r.d.Down() && rnd.Intn(3) > 0 {
			r.up()
		}
		what := rnd.Intn(20)
		if len(r.logs) == x.gone || what < 5 {
			x.open()
			continue
		}
		who := len(r.logs) - 1
		if rnd.Intn(4) == 0 {
			who = x.gone + rnd.Intn(len(r.logs)-x.gone)
		}
		switch {
		case what < 15:
			x.commit(who, root(step), someChanges(rnd))
		case what < 17:
			r.check(who)
		default:
			r.history(who)
		}
	}
}

// allKinds are all choices, and crashes those of an honest device that goes down.
func allKinds() []int {
	return []int{api.Honest, api.Alter, api.Drop, api.Replay, api.Rollback, api.Torn, api.Crash, api.After}
}

func crashes() []int { return []int{api.Honest, api.Torn, api.Crash, api.After} }

// Scripts of sessions over any choices, held against the model, and, as long as the book is sound, against 20.7 and 20.9.
func TestScriptsOfSessions(t *testing.T) {
	rounds := 1200
	if testing.Short() {
		rounds = 150
	}
	rooms := []int{100, openedFrame, 230, 350, 500, 1200, 5000, 40000}
	all := map[string]int{}
	unsound := 0
	for seed := range rounds {
		rnd := rand.New(rand.NewSource(int64(seed)))
		r := lay(t, rooms[rnd.Intn(len(rooms))], []int{256, 256, 8, 9, 14}[seed%5])
		x := newTruth(r)
		kinds := allKinds()
		if seed%3 == 0 {
			kinds = crashes()
		}
		x.wander(rnd, 40, rnd.Intn(8), kinds, rnd.Intn(2) == 0)
		for what, n := range x.seen {
			all[what] += n
		}
		if !r.book.Sound() {
			unsound++
		}
	}
	for _, what := range []string{"what counts", "commits", "fenced", "refused", "a commit that went down is there", "a commit that went down is not there"} {
		if all[what] < rounds/15 {
			t.Errorf("20.7: %q was seen %d times", what, all[what])
		}
	}
	if unsound == 0 || unsound > rounds*3/4 {
		t.Errorf("%d books of %d are not sound", unsound, rounds)
	}
}

// 20.8: over crashes alone, in room for three of the greatest records, an opening without one succeeds. (No session goes on over a
// crash: the log's torn end, which an opening alone cuts off, would stand ahead of its records.)
func TestHonestCrashes(t *testing.T) {
	rounds := 400
	if testing.Short() {
		rounds = 60
	}
	room := 3 * greatestFrame(t)
	for seed := range rounds {
		rnd := rand.New(rand.NewSource(int64(seed)))
		r := lay(t, room, 256)
		x := newTruth(r)
		for range 5 {
			x.wander(rnd, 8, 3+rnd.Intn(7), crashes(), true)
			x.gone = len(r.logs)
			r.up().choose()
			if e := x.open(); e != api.OK {
				r.fails("20.8: Open = %d", e)
			}
			for range rnd.Intn(4) { // fill the log with the greatest ones
				if e := x.commit(x.last, root(rnd.Intn(500)), greatest()); e != api.OK {
					r.fails("20.11: Commit = %d", e)
				}
			}
		}
	}
}

// downs tells the choices by which an access goes down, with how much of n bytes is written.
func downs(n int) []api.Choice {
	out := []api.Choice{{Kind: api.Crash}, {Kind: api.After}}
	for _, k := range []int{0, 1, 6, 7, 8, n / 2, n - 33, n - 32, n - 1, n} {
		out = append(out, api.Choice{Kind: api.Torn, N: k})
	}
	return out
}

// goesDown tells whether an access goes down by a choice, and whether what it does is all done then.
func goesDown(access string, c api.Choice, n int) (down, done bool) {
	switch {
	case c.Kind == api.After:
		return true, access != "append-"
	case c.Kind == api.Torn && (access == "reg" || access == "setreg"):
		return false, true
	case c.Kind == api.Torn && access == "append":
		return true, c.N == n
	}
	return true, false
}

// A crash and a torn write at each access of a commit: the next opening shows the whole batch just if its whole record came into the
// log.
func TestCrashesOfACommit(t *testing.T) {
	for commits, calls := range map[int]string{2: "append setreg", 3: "append- read trim append setreg"} {
		accesses := strings.Fields(calls)
		for at, access := range accesses {
			for _, c := range downs(openedFrame) {
				r := lay(t, 4*openedFrame, 256)
				x := newTruth(r)
				x.open()
				for i := range commits {
					x.commit(0, root(i), nil)
				}
				was := r.logs[0].Head()
				r.choose(honest(at, c)...)
				down, done := goesDown(access, c, openedFrame)
				in := at == len(accesses)-1 || at == len(accesses)-2 && done
				if e := x.commit(0, root(77), nil); down && e != api.ErrDown || !down && e != api.OK {
					r.fails("20.1: %v at %s: Commit = %d", c, access, e)
				}
				if down {
					r.failed("a crash", 0, was)
				}
				r.up().choose()
				if e := x.open(); e != api.OK {
					r.fails("20.8: %v at %s: Open = %d", c, access, e)
				}
				if got := r.logs[1].Head(); (got.Root == root(77)) != in || (got.Seq == was.Seq+1) != in {
					r.fails("20.7: %v at %s: %s is shown", c, access, brief(got))
				}
			}
		}
	}
}

// A crash and a torn write at each access of an opening, behind a commit that went down too.
func TestCrashesOfAnOpening(t *testing.T) {
	for _, first := range []api.Choice{{Kind: api.Crash}, {Kind: api.After}, {Kind: api.Torn, N: 40}, {Kind: api.Torn, N: openedFrame}} {
		for at := range 6 {
			for _, c := range downs(openedFrame) {
				for _, room := range []int{3 * openedFrame, 5 * openedFrame} {
					r := lay(t, room, 256)
					x := newTruth(r)
					x.open()
					x.commit(0, root(1), nil)
					r.choose(first)
					if e := x.commit(0, root(2), nil); e != api.ErrDown {
						r.fails("20.3: %d", e)
					}
					in := first.Kind == api.After || first.N == openedFrame
					r.up().choose(honest(at, c)...)
					x.open()
					r.up().choose()
					for range 2 {
						if e := x.open(); e != api.OK {
							r.fails("20.8: %v at access %d: Open = %d", c, at, e)
						}
						h := r.logs[len(r.logs)-1].Head()
						if (h.Root == root(2)) != in || (h.Seq == 2) != in {
							r.fails("20.7: %v at access %d: %s is shown", c, at, brief(h))
						}
					}
				}
			}
		}
	}
}

// An opening that crashed behind its Append leaves a record that no register stands for: the next one cuts it off, and writes the same.
func TestAnOpeningWritesTheSameAgain(t *testing.T) {
	for _, commits := range []int{0, 1, 3} {
		r := lay(t, 5000, 256)
		who := r.opens()
		for i := range commits {
			r.commits(who, root(i))
		}
		for range 3 {
			r.choose(honest(2, choice(api.After, 0))...)
			r.open()
			r.up()
			left := string(r.d.Media().Log)
			accesses := "reg read cut append setreg-"
			r.choose(honest(4, choice(api.Crash, 0))...)
			r.refusesOpen("an opening that crashes", api.ErrDown, accesses)
			r.wantsLog("the same bytes again", left)
			r.up()
			r.wantsOpen("the next one", r.logs[len(r.logs)-1].Head().Count+1, int64(commits), "reg read cut append setreg")
			r.wantsLog("the same bytes again", left)
		}
		if !r.book.Sound() {
			t.Errorf("20.7: the book is not sound")
		}
	}
}

// 20.10: of two sessions at one device the earlier one is fenced off, whichever of its calls comes first; the later one goes on.
func TestTwoSessions(t *testing.T) {
	for _, first := range []string{"check", "commit"} {
		for _, commits := range []int{0, 1, 4} {
			for _, later := range []int{0, 1, 4} {
				r := lay(t, 5000, 256)
				one := r.opens()
				for i := range commits {
					r.commits(one, root(i))
				}
				was := r.logs[one].Head()
				two := r.opens()
				for i := range later {
					r.commits(two, root(20+i))
				}
				if first == "check" {
					r.wantsCheck("the earlier one", one, api.ErrStale, "reg")
				} else {
					r.refusesCommit("the earlier one", one, []api.Change{put("a", "1")}, api.ErrStale, "append setreg-")
				}
				r.failed("the earlier one", one, was)
				r.wantsCheck("the later one", two, api.OK, "reg")
				h := r.wantsCommit("the later one", two, r.logs[two].Head().Count+1, int64(commits+later+1), root(50), nil, "append setreg")
				three := r.opens()
				if got := r.logs[three].Head(); got.Root != h.Root || got.Seq != h.Seq {
					r.fails("20.10: %s is shown, not %s", brief(got), brief(h))
				}
			}
		}
	}
}

// The earlier one's record stands just behind the later one's opening: it is never taken.
func TestAFencedRecordIsNotTaken(t *testing.T) {
	r := lay(t, 5000, 256)
	one := r.opens()
	two := r.opens()
	r.refusesCommit("the earlier one", one, nil, api.ErrStale, "append setreg-")
	h := r.wantsOpen("a third one", 3, 0, "reg read cut append setreg")
	if h.Root != hashOf(256, "\x80") {
		t.Errorf("20.7: a commit that was refused is shown")
	}
	r.wantsCheck("the second one", two, api.ErrStale, "reg")
	if l, e := r.history(len(r.logs) - 1); e != api.OK || len(l) != 3 {
		t.Errorf("20.6: %d records, %d", len(l), e)
	}
}

// Without room for its record, the earlier one is told of that, or that it is stale; the later one goes on, whatever it trims.
func TestFencedWithoutRoom(t *testing.T) {
	for room := 2 * openedFrame; room < 6*openedFrame; room += 37 {
		for commits := range 4 {
			r := lay(t, room, 256)
			x := newTruth(r)
			x.open()
			for i := range commits {
				x.commit(0, root(i), nil)
			}
			x.open()
			if e := x.commit(0, root(30), greatest()); e != api.ErrFull && e != api.ErrStale {
				r.fails("20.10: the earlier one's Commit = %d", e)
			}
			r.wantsCheck("the later one", 1, api.OK, "reg")
			for i := range 4 {
				if e := x.commit(1, root(40+i), nil); e != api.OK {
					r.fails("20.11: the later one's Commit = %d", e)
				}
			}
			if e := x.open(); e != api.OK {
				r.fails("20.8: Open = %d", e)
			}
		}
	}
}

// 20.11: hundreds of commits in room for two of the greatest records.
func TestRoomForTwo(t *testing.T) {
	commits := 400
	if testing.Short() {
		commits = 60
	}
	for _, every := range []int{1, 2, 7} { // each one of the greatest, each second one, ..
		r := newRig(t, 256)
		w, h := r.write(committedBehind(api.Head{Count: greatestCount - 5000, Seq: greatestCount - 9000, Tag: api.Hash{1}}, root(1), greatest()...))
		long := len(w) // no record below the greatest count is longer
		r.load(2*long, w, api.Register{Count: h.Count, Tag: h.Tag})
		who := r.opens()
		for i := range commits {
			var changes []api.Change
			if i%every == 0 {
				changes = greatest()
			}
			r.commits(who, root(i), changes...)
			if n := len(r.d.Media().Log); n > 2*long {
				t.Fatalf("20.11: the log has %d bytes", n)
			}
			if i%50 == 3 {
				r.wantsCheck("in between", who, api.OK, "reg")
			}
		}
		if h := r.logs[who].Head(); h.Seq != greatestCount-9000+1+int64(commits) || h.Count != greatestCount-5000+2+int64(commits) {
			t.Errorf("20.11: %s", brief(h))
		}
	}
}

// 20.11 from an empty device on, with records of all lengths, and one session behind the other.
func TestRoomForTwoFromTheBeginning(t *testing.T) {
	rnd := rand.New(rand.NewSource(11))
	r := lay(t, 2*greatestFrame(t), 256)
	x := newTruth(r)
	x.open()
	for i := range 300 {
		if i%60 == 59 {
			if e := x.commit(x.last, root(0), nil); e != api.OK {
				r.fails("20.11: Commit = %d", e)
			}
			if e := x.open(); e != api.OK { // the head's record is a small one, so there is room for an opening's
				r.fails("20.2: Open = %d", e)
			}
		}
		changes := greatest()
		if rnd.Intn(3) == 0 {
			changes = someChanges(rnd)
		}
		if e := x.commit(x.last, root(i), changes); e != api.OK {
			r.fails("20.11: Commit = %d", e)
		}
	}
	if !r.book.Sound() {
		t.Errorf("20.11: the book is not sound")
	}
}

// A commit that was refused with an error other than ErrDown never comes back, whatever a log shows then: W3.
func TestRefusedCommitsNeverComeBack(t *testing.T) {
	rounds := 200
	if testing.Short() {
		rounds = 30
	}
	refused := 0
	for seed := range rounds {
		rnd := rand.New(rand.NewSource(int64(seed)))
		r := lay(t, []int{350, 1200, 5000}[seed%3], 256)
		x := newTruth(r)
		never := map[api.Hash]int{}
		for step := range 30 {
			if rnd.Intn(4) == 0 {
				r.choose(honest(rnd.Intn(4), choice(allKinds()[rnd.Intn(8)], rnd.Intn(6)))...)
			}
			r.up()
			if len(r.logs) == 0 || rnd.Intn(3) == 0 {
				if x.open() == api.OK && never[x.counts.root] > 0 {
					r.fails("W3: a refused commit is shown")
				}
				continue
			}
			who := rnd.Intn(len(r.logs))
			h := api.Hash{byte(step), byte(seed), 7}
			if e := x.commit(who, h, nil); e != api.OK && e != api.ErrDown {
				never[h]++
				refused++
			}
		}
	}
	if refused < 100 {
		t.Errorf("W3: %d commits were refused", refused)
	}
}

// An opening that was torn, and an earlier session that goes on over the crash: by 20.3 it looks at nothing but its Append and the
// register, so its record stands behind the torn end. The next opening is an error then, and nothing wrong is shown.
func TestASessionThatGoesOnOverATornEnd(t *testing.T) {
	r := lay(t, 5000, 256)
	who := r.opens()
	r.choose(honest(2, choice(api.Torn, 40))...)
	r.refusesOpen("a torn opening", api.ErrDown, "reg read append-")
	r.up()
	r.wantsCommit("over the torn end", who, 2, 1, root(1), nil, "append setreg")
	r.wantsCheck("over the torn end", who, api.OK, "reg")
	r.refusesOpen("behind it", api.ErrStale, "reg read")
	r.refusesHistory("behind it", who, api.ErrStale, "read")
}

// The record of a session that is fenced off takes room behind the later one's head, where no Trim makes any: ErrFull by 20.3, and an
// opening cuts it off.
func TestAFencedRecordTakesRoom(t *testing.T) {
	changes := []api.Change{put("a", strings.Repeat("v", 130))}
	for _, fenced := range []bool{false, true} {
		r := newRig(t, 256)
		w, _ := r.write(committedBehind(api.Head{}, root(66), changes...))
		r.load(openedFrame+len(w), "", api.Register{}) // room for the later one's head and its record
		one := r.opens()
		two := r.opens()
		if !fenced {
			r.wantsCommit("the later one", two, 3, 1, root(66), changes, "append- read trim append setreg")
			continue
		}
		r.refusesCommit("the earlier one", one, nil, api.ErrStale, "append setreg-")
		r.refusesCommit("the later one", two, changes, api.ErrFull, "append- read trim append-")
		r.wantsCheck("the later one", two, api.OK, "reg")
		r.wantsOpen("anew", 3, 0, "reg read cut append setreg")
	}
}
