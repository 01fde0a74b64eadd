package seal_test

import (
	"slices"
	"strings"
	"testing"

	"cairn/api"
	"cairn/journal"
	"cairn/media"
	"cairn/seal"
)

// wantsCommit commits, and holds the head's numbers and the accesses against what the test names.
func (r *rig) wantsCommit(what string, who int, count, seq int64, root api.Hash, changes []api.Change, accesses string) api.Head {
	r.t.Helper()
	was := r.logs[who].Head()
	var h api.Head
	var e api.Errno
	made := r.made(func() { h, e = r.commit(who, root, changes...) })
	if h.Count != count || h.Seq != seq || h.Root != root || e != api.OK || made != accesses {
		r.fails("20.3: %s: Commit = %s, %d by %q, not {%d %d .. %x} by %q", what, brief(h), e, made, count, seq, root[:3], accesses)
	}
	if h != r.logs[who].Head() || was == h {
		r.fails("20.3: %s: the session stands at %s", what, brief(r.logs[who].Head()))
	}
	if reg := r.d.Media().Reg; reg != (api.Register{Count: h.Count, Tag: h.Tag}) {
		r.fails("20.3: %s: the register is at %d, not at the head", what, reg.Count)
	}
	return h
}

// refusesCommit commits, and holds the error and the accesses against what the test names; the head stays.
func (r *rig) refusesCommit(what string, who int, changes []api.Change, wrong api.Errno, accesses string) {
	r.t.Helper()
	was := r.logs[who].Head()
	_, coded := r.book.Len()
	var h api.Head
	var e api.Errno
	made := r.made(func() { h, e = r.commit(who, root(66), changes...) })
	if h != (api.Head{}) || e != wrong || made != accesses {
		r.fails("20.3: %s: Commit = %s, %d by %q, not error %d by %q", what, brief(h), e, made, wrong, accesses)
	}
	if r.logs[who].Head() != was {
		r.fails("20.3: %s: the head has moved", what)
	}
	if _, n := r.book.Len(); accesses == "" && n != coded {
		r.fails("R7: %s: a record that is not written was coded", what)
	}
}

func TestCommit(t *testing.T) {
	for _, bits := range []int{8, 256} {
		r := lay(t, 40000, bits)
		who := r.opens()
		head := r.logs[who].Head()
		log := string(r.d.Media().Log)
		for i, changes := range [][]api.Change{nil, {}, {put("a", "1")}, {gone("a")}, {put("a", "1"), put("a", "2"), gone("")}, greatest(), {put("", strings.Repeat("v", 256))}} {
			w, want := r.write(committedBehind(head, root(i), changes...))
			h := r.wantsCommit("a batch", who, head.Count+1, head.Seq+1, root(i), changes, "append setreg")
			log += w
			if h != want {
				t.Errorf("20.3: the head is %s, not %s", brief(h), brief(want))
			}
			if string(r.d.Media().Log) != log {
				t.Errorf("20.3: the log is not the one ahead of the commit with its frame behind it")
			}
			head = h
		}
	}
}

// A root is any 32 bytes: the present one, zeros, the empty trie's.
func TestCommitOfAnyRoot(t *testing.T) {
	r := lay(t, 40000, 256)
	who := r.opens()
	for i, h := range []api.Hash{{}, root(1), root(1), hashOf(256, "\x80"), {31: 255}} {
		r.wantsCommit("any root", who, int64(i)+2, int64(i)+1, h, nil, "append setreg")
	}
}

// wrongBatches tells batches that may not be, each by one thing alone.
func wrongBatches() [][]api.Change {
	long := func(n int) string { return strings.Repeat("x", n) }
	wrong := []api.Change{
		put("k", ""), put("", ""), put("k", long(257)), put("k", long(5000)), put(long(33), "v"), put(long(900), "v"), gone(long(33)),
		{Key: []byte("k"), Value: []byte("v"), Gone: true}, {Value: []byte("v"), Gone: true}, {},
	}
	out := [][]api.Change{slices.Repeat([]api.Change{gone("k")}, 33), slices.Repeat([]api.Change{put("k", "v")}, 33), slices.Repeat([]api.Change{put("k", "v")}, 400)}
	for _, c := range wrong {
		out = append(out, []api.Change{c}, []api.Change{c, put("k", "v")}, []api.Change{put("k", "v"), c}, append(greatest()[:31], c), append([]api.Change{c}, greatest()[:31]...))
	}
	return out
}

func TestCommitOfWrongBatches(t *testing.T) {
	r := lay(t, 40000, 256)
	who := r.opens()
	for _, changes := range wrongBatches() {
		r.refusesCommit("a batch that may not be", who, changes, api.ErrInput, "")
	}
	if e := r.check(who); e != api.OK {
		t.Errorf("20.1: behind ErrInput Check = %d", e)
	}
	r.wantsCommit("behind wrong batches", who, 2, 1, root(1), []api.Change{put("k", "v")}, "append setreg")
}

// What may not be is told of a device that is down too, and of one without room: no access is made.
func TestWrongBatchesAheadOfTheDevice(t *testing.T) {
	r := lay(t, openedFrame, 256)
	who := r.opens()
	bad := []api.Change{put("k", "")}
	r.refusesCommit("no room", who, bad, api.ErrInput, "")
	r.refusesCommit("no room", who, nil, api.ErrFull, "append- read")
	r.choose(choice(api.Crash, 0))
	r.aside("a crash", func(d *media.Device) { d.Get(api.Hash{1}) })
	r.refusesCommit("down", who, bad, api.ErrInput, "")
	r.refusesCommit("down", who, nil, api.ErrDown, "")
	r.refusesCommit("it has failed", who, bad, api.ErrFailed, "")
	r.up()
	r.refusesCommit("it has failed", who, nil, api.ErrFailed, "")
}

// A Commit at the end of the counter: told ahead of a batch that may not be, behind a failure.
func TestCommitAtTheGreatestCount(t *testing.T) {
	r := newRig(t, 256)
	c := r.chain(api.Head{Count: greatestCount - 3, Seq: 5, Tag: api.Hash{9}, Root: root(1)}, "c")
	r.load(5000, c.all(), c.reg(1))
	who := r.opens() // one less than the greatest
	h := r.wantsCommit("one less", who, greatestCount, 7, root(3), []api.Change{gone("a")}, "append setreg")
	for range 2 {
		r.refusesCommit("the greatest", who, nil, api.ErrCount, "")
		r.refusesCommit("the greatest", who, []api.Change{put("a", "")}, api.ErrCount, "")
	}
	if e := r.check(who); e != api.OK || r.logs[who].Head() != h {
		t.Errorf("20.1: behind ErrCount Check = %d", e)
	}
	if l, e := r.history(who); e != api.OK || len(l) != 3 {
		t.Errorf("20.6: %d records, %d", len(l), e)
	}
	r.refusesOpen("the greatest", api.ErrCount, "reg read")
	r.choose(choice(api.Crash, 0))
	if e := r.check(who); e != api.ErrDown {
		t.Errorf("20.4: %d", e)
	}
	r.up()
	r.refusesCommit("it has failed", who, nil, api.ErrFailed, "")
}

// An opening at the greatest count can commit nothing.
func TestOpenedAtTheGreatestCount(t *testing.T) {
	r := newRig(t, 256)
	c := r.chain(api.Head{Count: greatestCount - 2, Seq: 5, Tag: api.Hash{9}, Root: root(1)}, "c")
	r.load(5000, c.all(), c.reg(1))
	r.wantsOpen("the greatest", greatestCount, 6, "reg read append setreg")
	r.refusesCommit("the greatest", 0, []api.Change{put("a", "1")}, api.ErrCount, "")
	if e := r.check(0); e != api.OK {
		t.Errorf("20.4: %d", e)
	}
}

// Without room: a Trim that helps. The log begins with the head's record then.
func TestCommitTrims(t *testing.T) {
	for _, extra := range []int{0, 1, openedFrame - 1} {
		r := lay(t, 2*openedFrame+extra, 256)
		who := r.opens()
		for i := range int64(20) {
			accesses := "append- read trim append setreg"
			if i == 0 {
				accesses = "append setreg"
			}
			h := r.wantsCommit("no room", who, i+2, i+1, root(int(i)), nil, accesses)
			all, e := journal.Scan(r.book, r.d.Media().Log)
			if e != api.OK || len(all) != 2 || all[1].Tag != h.Tag || all[0].Record.Count != h.Count-1 {
				t.Fatalf("20.3: %d records are left, %d", len(all), e)
			}
		}
	}
}

// Without room, and the head's record begins at 0: ErrFull, and the session goes on at the head that it had.
func TestCommitWithoutRoom(t *testing.T) {
	r := lay(t, 300, 256)
	who := r.opens()
	big := []api.Change{put("a", strings.Repeat("v", 100))}
	log := string(r.d.Media().Log)
	for range 3 {
		r.refusesCommit("the head's record begins at 0", who, big, api.ErrFull, "append- read")
		r.wantsLog("the head's record begins at 0", log)
		if e := r.check(who); e != api.OK {
			t.Fatalf("20.3: behind ErrFull Check = %d", e)
		}
	}
	r.wantsCommit("a smaller one", who, 2, 1, root(1), nil, "append setreg")
	// Now the head's record stands behind the opening's: the Trim is done, and helps too little.
	bigger := []api.Change{put("a", strings.Repeat("v", 190))}
	r.refusesCommit("the Trim helps too little", who, bigger, api.ErrFull, "append- read trim append-")
	r.wantsLog("the Trim helps too little", string(r.d.Media().Log)[:openedFrame])
	if l, e := r.history(who); e != api.OK || len(l) != 1 || l[0].Count != 2 {
		t.Errorf("20.3: %d records, %d", len(l), e)
	}
	r.refusesCommit("nothing to trim any more", who, bigger, api.ErrFull, "append- read")
	if e := r.check(who); e != api.OK {
		t.Errorf("20.3: behind ErrFull Check = %d", e)
	}
	r.wantsCommit("a smaller one", who, 3, 2, root(2), nil, "append setreg")
	r.wantsOpen("anew", 4, 2, "reg read append- trim append setreg")
}

// Each room around what a commit needs.
func TestCommitInEachRoom(t *testing.T) {
	step := 1
	if testing.Short() {
		step = 7
	}
	for room := openedFrame; room < 4*openedFrame; room += step {
		r := lay(t, room, 256)
		who := r.opens()
		for i, n := range []int{0, 1, 60, 120, 0, 3} {
			var changes []api.Change
			if n > 0 {
				changes = []api.Change{put("key", strings.Repeat("v", n))}
			}
			r.commit(who, root(i), changes...)
			r.check(who)
			r.history(who)
		}
	}
}

// Without room, and the log no longer has the head's record: ErrStale, and the session has failed.
func TestCommitOfALostHead(t *testing.T) {
	for what, lose := range map[string]func(d *media.Device){
		"all is gone, and rubbish fills it": func(d *media.Device) {
			d.Cut(0)
			d.Append(make([]byte, 2*openedFrame))
		},
		"the head's record is torn": func(d *media.Device) {
			d.Cut(2*openedFrame - 1)
			d.Append([]byte{1})
		},
		"the log's first byte is gone": func(d *media.Device) {
			d.Trim(1)
			d.Append([]byte{1})
		},
		"the record ahead of it is there twice": func(d *media.Device) {
			log, _ := d.Read()
			d.Cut(openedFrame)
			d.Append(log[:openedFrame])
		},
	} {
		r := lay(t, 2*openedFrame, 256)
		who := r.opens()
		h := r.commits(who, root(1))
		r.aside(what, lose)
		r.refusesCommit(what, who, nil, api.ErrStale, "append- read")
		r.failed(what, who, h)
	}
}

// failed looks that a session has failed: all its calls but Head say so, and make no access.
func (r *rig) failed(what string, who int, h api.Head) {
	r.t.Helper()
	made := r.made(func() {
		for range 2 {
			if e := r.check(who); e != api.ErrFailed {
				r.fails("20.1: %s: Check = %d", what, e)
			}
			if l, e := r.history(who); e != api.ErrFailed || len(l) != 0 {
				r.fails("20.1: %s: History = %d", what, e)
			}
			if got, e := r.commit(who, root(3), put("a", "1")); e != api.ErrFailed || got != (api.Head{}) {
				r.fails("20.1: %s: Commit = %d", what, e)
			}
			if got := r.logs[who].Head(); got != h {
				r.fails("20.5: %s: Head = %s, not %s", what, brief(got), brief(h))
			}
		}
	})
	if made != "" {
		r.fails("20.1: %s: a session that has failed makes accesses: %s", what, made)
	}
}

// The head's record stands in the log twice: the log is trimmed to the last.
func TestCommitTrimsToTheLastOfTwo(t *testing.T) {
	r := lay(t, 4*openedFrame, 256)
	who := r.opens()
	r.commits(who, root(1))
	head := r.d.Media().Log[openedFrame:]
	r.aside("the head's record once more", func(d *media.Device) { d.Append(head) })
	r.wantsCommit("the head's record twice, with room", who, 3, 2, root(2), nil, "append setreg")
	head = r.d.Media().Log[3*openedFrame:]
	r.aside("the head's record three times", func(d *media.Device) {
		d.Cut(openedFrame)
		for range 3 {
			d.Append(head)
		}
	})
	r.wantsCommit("the head's record three times", who, 4, 3, root(3), nil, "append- read trim append setreg")
	if l, e := r.history(who); e != api.OK || len(l) != 2 {
		t.Errorf("20.3: %d records are left, %d", len(l), e)
	}
}

// By few bits another record may have the head's count and code: the last such counts.
func TestCommitTrimsToTheLastOfTwins(t *testing.T) {
	r := lay(t, 5000, 8)
	who := r.opens()
	twins := r.twinsBehind(r.logs[who].Head())
	r.commits(who, twins[0].Root, twins[0].Changes...)
	other, _ := r.write(twins[1])
	fill := make([]byte, 5000-len(r.d.Media().Log)-len(other))
	r.aside("the twin, and rubbish", func(d *media.Device) {
		d.Append([]byte(other))
		d.Append(fill)
	})
	if l, e := r.history(who); e != api.OK || len(l) != 3 || l[2].Root != twins[1].Root {
		t.Errorf("20.6: %d records, %d", len(l), e)
	}
	at := 5000 - len(fill) - len(other)
	r.wantsCommit("twins", who, 3, 2, root(1), nil, "append- read trim append setreg")
	if got := string(r.d.Media().Log); !strings.HasPrefix(got, other) || len(got) != 5000-at+openedFrame {
		t.Errorf("20.3: the log is not trimmed to the last of the twins")
	}
}

// What a session may do, another one at another device of the same book may do too: nothing is shared.
func TestSessionsOfOneBook(t *testing.T) {
	r := lay(t, 1000, 256)
	one, _, e := seal.Open(r.d, r.book)
	two, _, f := seal.Open(r.twin, r.book)
	if e != api.OK || f != api.OK {
		t.Fatalf("20.2: %d, %d", e, f)
	}
	a, e := one.Commit(root(1), nil)
	if e != api.OK || two.Head().Count != 1 || two.Check() != api.OK {
		t.Errorf("R5: %d", e)
	}
	b, e := two.Commit(root(1), nil)
	if e != api.OK || a != b || one.Check() != api.OK || !r.book.Sound() {
		t.Errorf("R5: %s and %s", brief(a), brief(b))
	}
}
