package seal_test

import (
	"strings"
	"testing"

	"cairn/api"
	"cairn/digest"
	"cairn/journal"
	"cairn/media"
	"cairn/seal"
)

// The chapter's examples, each at a device of room 40000 with a book of all bits.

var batch = []api.Change{put("a", "1")}

func TestExample1(t *testing.T) {
	r := lay(t, 40000, 256)
	empty := hashOf(256, "\x80")
	one, h, _ := r.open()
	t1 := h.Tag
	if h != (api.Head{Count: 1, Seq: 0, Tag: t1, Root: empty}) {
		t.Errorf("example 1: Open = %s", brief(h))
	}
	if m := r.d.Media(); m.Reg != (api.Register{Count: 1, Tag: t1}) || len(m.Log) != 111 {
		t.Errorf("example 1: the register is at %d, the log has %d bytes", m.Reg.Count, len(m.Log))
	}
	h = r.commits(one, root(1), batch...)
	if h != (api.Head{Count: 2, Seq: 1, Tag: h.Tag, Root: root(1)}) {
		t.Errorf("example 1: Commit = %s", brief(h))
	}
	l, e := r.history(one)
	want := []api.Record{
		{Kind: api.Opened, Count: 1, Root: empty},
		{Kind: api.Committed, Count: 2, Seq: 1, Prev: t1, Root: root(1), Changes: batch},
	}
	if e != api.OK || shown(l) != shown(want) {
		t.Errorf("example 1: History = %s, %d", shown(l), e)
	}
	r.wantsCheck("example 1", one, api.OK, "reg")
	_, next, _ := r.open()
	if next != (api.Head{Count: 3, Seq: 1, Tag: next.Tag, Root: root(1)}) {
		t.Errorf("example 1: Open = %s", brief(next))
	}
	r.wantsCheck("example 1", one, api.ErrStale, "reg")
	r.wantsCheck("example 1", one, api.ErrFailed, "")
	r.refusesCommit("example 1", one, batch, api.ErrFailed, "")
	if got := r.logs[one].Head(); got != h {
		t.Errorf("example 1: Head = %s", brief(got))
	}
}

// crashed opens, lays choices, commits into a crash, and takes the device up again.
func crashed(t *testing.T, choices ...api.Choice) *rig {
	t.Helper()
	r := lay(t, 40000, 256)
	who := r.opens()
	r.choose(choices...)
	if _, e := r.commit(who, root(1), batch...); e != api.ErrDown {
		t.Fatalf("example 2: Commit = %d", e)
	}
	return r.up()
}

func TestExample2(t *testing.T) {
	r := crashed(t, honest(1, choice(api.Crash, 0))...)
	if m := r.d.Media(); m.Reg.Count != 1 || len(m.Log) <= 111 {
		t.Errorf("example 2: the register is at %d, the log has %d bytes", m.Reg.Count, len(m.Log))
	}
	if h := r.wantsOpen("example 2", 3, 1, "reg read append setreg"); h.Root != root(1) {
		t.Errorf("example 2: the commit was not taken")
	}
	r = crashed(t, choice(api.Crash, 0))
	if n := len(r.d.Media().Log); n != 111 {
		t.Errorf("example 2: the log has %d bytes", n)
	}
	if h := r.wantsOpen("example 2", 2, 0, "reg read append setreg"); h.Root != hashOf(256, "\x80") {
		t.Errorf("example 2: %s", brief(h))
	}
}

func TestExample3(t *testing.T) {
	r := crashed(t, choice(api.Torn, 5))
	if n := len(r.d.Media().Log); n != 116 {
		t.Errorf("example 3: the log has %d bytes", n)
	}
	if h := r.wantsOpen("example 3", 2, 0, "reg read cut append setreg"); h.Root != hashOf(256, "\x80") {
		t.Errorf("example 3: %s", brief(h))
	}
}

func TestExample4(t *testing.T) {
	r := lay(t, 40000, 256)
	who := r.opens()
	ahead := string(r.d.Media().Log)
	r.commits(who, root(1), batch...)
	reg := r.d.Media().Reg
	stray, _ := r.write(committedBehind(r.models[who].head, root(9)))
	for _, log := range []string{ahead, "", ahead + "\x00", ahead + ahead, ahead + stray, strings.Repeat("\xca", 50)} {
		r.load(40000, log, reg)
		r.refusesOpen("example 4", api.ErrStale, "reg read")
	}
}

func TestExample5(t *testing.T) {
	r := crashed(t, honest(1, choice(api.Crash, 0))...)
	hidden := string(r.d.Media().Log)[111:]
	r.choose(honest(1, choice(api.Rollback, 1))...)
	h := r.wantsOpen("example 5", 2, 0, "reg read append setreg")
	if h.Root != hashOf(256, "\x80") {
		t.Errorf("example 5: %s", brief(h))
	}
	m := r.d.Media()
	first, own := string(m.Log)[:111], string(m.Log)[111:]
	for _, log := range []string{first + hidden + own, first + own + hidden, first + own + hidden + own, hidden + own, own + hidden} {
		r.load(40000, log, m.Reg)
		_, got, e := r.open()
		if e != api.OK || got.Seq != 0 || got.Root != h.Root {
			t.Errorf("example 5: %s, %d", brief(got), e)
		}
	}
	r.load(40000, first+hidden, m.Reg)
	r.refusesOpen("example 5", api.ErrStale, "reg read")
}

func TestExample6(t *testing.T) {
	book, _ := digest.New(256, 256, make([]byte, 32))
	if l, h, e := seal.Open(nil, book); l != nil || h != (api.Head{}) || e != api.ErrHandle {
		t.Errorf("example 6: %d", e)
	}
	d, _ := media.New(1, 100)
	if l, h, e := seal.Open(d, book); l != nil || h != (api.Head{}) || e != api.ErrFull {
		t.Errorf("example 6: %d", e)
	}
	w, _, _ := journal.Write(book, api.Record{Kind: api.Opened, Count: 1, Root: book.Hash([]byte{128})})
	if len(w) != 111 {
		t.Errorf("example 6: the first record's frame has %d bytes", len(w))
	}
	for room, want := range map[int]api.Errno{110: api.ErrFull, 111: api.OK} {
		d, _ := media.New(1, room)
		if _, _, e := seal.Open(d, book); e != want {
			t.Errorf("example 6: room %d: %d", room, e)
		}
	}
}
