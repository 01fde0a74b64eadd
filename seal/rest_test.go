package seal_test

import (
	"strings"
	"testing"

	"cairn/api"
	"cairn/media"
)

// wantsCheck checks, and holds the error and the accesses against what the test names.
func (r *rig) wantsCheck(what string, who int, wrong api.Errno, accesses string) {
	r.t.Helper()
	var e api.Errno
	if made := r.made(func() { e = r.check(who) }); e != wrong || made != accesses {
		r.fails("20.4: %s: Check = %d by %q, not %d by %q", what, e, made, wrong, accesses)
	}
}

// wantsHistory asks for the history, and holds the records and the accesses against what the test names.
func (r *rig) wantsHistory(what string, who int, records []api.Record) {
	r.t.Helper()
	var l []api.Record
	var e api.Errno
	made := r.made(func() { l, e = r.history(who) })
	if shown(l) != shown(records) || e != api.OK || made != "read" {
		r.fails("20.6: %s: History = %d records, %d by %q, not %d", what, len(l), e, made, len(records))
	}
}

// refusesHistory asks for the history, and holds the error and the accesses against what the test names.
func (r *rig) refusesHistory(what string, who int, wrong api.Errno, accesses string) {
	r.t.Helper()
	var l []api.Record
	var e api.Errno
	made := r.made(func() { l, e = r.history(who) })
	if len(l) != 0 || e != wrong || made != accesses {
		r.fails("20.6: %s: History = %d records, %d by %q, not error %d by %q", what, len(l), e, made, wrong, accesses)
	}
}

func TestCheck(t *testing.T) {
	r := lay(t, 5000, 256)
	who := r.opens()
	for i := range 5 {
		r.wantsCheck("its own head", who, api.OK, "reg")
		r.wantsCheck("its own head, once more", who, api.OK, "reg")
		r.commits(who, root(i))
	}
	r.aside("the log is lost", func(d *media.Device) { d.Cut(0) })
	r.wantsCheck("the log is no business of Check", who, api.OK, "reg")
}

// Behind another session's opening, and behind its commit.
func TestCheckBehindAnotherSession(t *testing.T) {
	for _, commits := range []int{0, 1, 3} {
		r := lay(t, 5000, 256)
		one := r.opens()
		h := r.commits(one, root(1))
		two := r.opens()
		for i := range commits {
			r.commits(two, root(i))
		}
		r.wantsCheck("the earlier one", one, api.ErrStale, "reg")
		r.failed("the earlier one", one, h)
		r.wantsCheck("the later one", two, api.OK, "reg")
		r.commits(two, root(9))
	}
}

// The counter and the tag both count.
func TestCheckLooksAtTheWholeRegister(t *testing.T) {
	for _, x := range []struct {
		count int64
		turn  int // which bit of the tag is turned; -1: none
	}{{3, -1}, {4, -1}, {greatestCount, -1}, {3, 0}, {3, 255}} {
		r := lay(t, 5000, 256)
		who := r.opens()
		h := r.commits(who, root(1))
		reg := api.Register{Count: x.count, Tag: h.Tag}
		if x.turn >= 0 {
			reg.Tag[x.turn/8] ^= 128 >> (x.turn % 8)
		}
		r.aside("another register", func(d *media.Device) { d.SetReg(reg) })
		r.wantsCheck("another register", who, api.ErrStale, "reg")
		r.failed("another register", who, h)
	}
}

// A register with the session's counter and another tag: no device comes to that by itself, so it is laid under the session.
func TestCheckOfAnotherTag(t *testing.T) {
	for i := range 256 {
		r := lay(t, 5000, 256)
		who := r.opens()
		h := r.commits(who, root(1))
		m := r.d.Media()
		m.Reg.Tag[i/8] ^= 128 >> (i % 8)
		r.aside("a turned bit of the tag", func(d *media.Device) {
			other, _ := media.Load(m)
			*d = *other
		})
		r.wantsCheck("a turned bit of the tag", who, api.ErrStale, "reg")
		r.failed("a turned bit of the tag", who, h)
	}
}

func TestHead(t *testing.T) {
	r := lay(t, 5000, 256)
	who, h, _ := r.open()
	made := r.made(func() {
		for range 3 {
			if got := r.logs[who].Head(); got != h {
				t.Errorf("20.5: Head = %s, not %s", brief(got), brief(h))
			}
		}
	})
	if made != "" {
		t.Errorf("20.5: Head makes accesses: %s", made)
	}
	h = r.commits(who, root(1), put("a", "1"))
	if got := r.logs[who].Head(); got != h {
		t.Errorf("20.5: Head = %s, not %s", brief(got), brief(h))
	}
	r.choose(honest(1, choice(api.After, 0))...)
	if _, e := r.commit(who, root(2)); e != api.ErrDown {
		t.Fatalf("20.3: %d", e)
	}
	r.failed("its commit went down", who, h) // the register stands for the new record, the session does not
	r.up()
	r.failed("up again", who, h)
}

func TestHistory(t *testing.T) {
	r := lay(t, 60000, 256)
	who, h, _ := r.open()
	all := []api.Record{openedBehind(r.beginning())}
	r.wantsHistory("one record", who, all)
	for i := range 30 {
		changes := []api.Change{put("k", strings.Repeat("v", i+1)), gone("")}[:i%3]
		all = append(all, committedBehind(h, root(i), changes...))
		h = r.commits(who, root(i), changes...)
		r.wantsHistory("many records", who, all)
	}
	all = append(all, committedBehind(h, root(99), greatest()...))
	h = r.commits(who, root(99), greatest()...)
	all = append(all, openedBehind(h))
	later := r.opens()
	r.wantsHistory("a later session", later, all)
	r.wantsHistory("the earlier one, to its own head", who, all[:len(all)-1])
	all = append(all, committedBehind(r.logs[later].Head(), root(5)))
	r.commits(later, root(5))
	r.wantsHistory("the later one", later, all)
	r.wantsHistory("the earlier one, to its own head", who, all[:len(all)-2])
}

// History asks for the log alone: it does not tell that the register has moved on.
func TestHistoryBehindATrim(t *testing.T) {
	r := lay(t, 3*openedFrame, 256)
	who, h, _ := r.open()
	all := []api.Record{openedBehind(r.beginning())}
	for i := range 12 {
		all = append(all, committedBehind(h, root(i)))
		h = r.commits(who, root(i))
		// Three fit. The fourth one's commit trims to the third one, so two are left.
		n := min(i+2, 2+i%2)
		r.wantsHistory("behind a Trim", who, all[len(all)-n:])
	}
	later := r.opens()
	r.wantsHistory("behind an opening that found room", who, all[len(all)-1:])
	all = append(all, openedBehind(h))
	r.wantsHistory("the later one", later, all[len(all)-2:])
}

// What stands behind the head's record, and rubbish, is not told; what stands ahead of it is, whatever it is.
func TestHistoryUpToTheHead(t *testing.T) {
	for _, tail := range []string{"", "\x00", "rubbish", "\xca"} {
		r := lay(t, 5000, 256)
		one := r.opens()
		r.commits(one, root(1))
		two := r.opens()
		if _, e := r.commit(one, root(2)); e != api.ErrStale { // its record stands behind the later one's opening
			t.Fatalf("20.10: %d", e)
		}
		r.aside("a tail", func(d *media.Device) { d.Append([]byte(tail)) })
		l, e := r.history(two)
		if e != api.OK || len(l) != 3 || l[2].Kind != api.Opened {
			t.Errorf("20.6: %d records, %d", len(l), e)
		}
		if tail != "" {
			r.aside("no tail", func(d *media.Device) {
				log, _ := d.Read()
				d.Cut(len(log) - len(tail))
			})
		}
		r.commits(two, root(3))
		l, e = r.history(two)
		if e != api.OK || len(l) != 5 || l[3].Root != root(2) || l[4].Root != root(3) {
			t.Errorf("20.6: %d records, %d", len(l), e)
		}
	}
}

// The log lacks the head's record: ErrStale, and the session has failed.
func TestHistoryOfALostHead(t *testing.T) {
	for what, lose := range map[string]func(d *media.Device){
		"no log":                       func(d *media.Device) { d.Cut(0) },
		"the last record is gone":      func(d *media.Device) { d.Cut(2 * openedFrame) },
		"its last byte is gone":        func(d *media.Device) { d.Cut(3*openedFrame - 1) },
		"the first record's byte":      func(d *media.Device) { d.Trim(1) },
		"a record of another tag":      func(d *media.Device) { d.Cut(0); d.Append([]byte(strings.Repeat("\x00", 99))) },
		"the log begins behind it all": func(d *media.Device) { d.Trim(3 * openedFrame) },
	} {
		r := lay(t, 5000, 256)
		who := r.opens()
		r.commits(who, root(1))
		h := r.commits(who, root(2))
		r.aside(what, lose)
		r.refusesHistory(what, who, api.ErrStale, "read")
		r.failed(what, who, h)
	}
}

// Only a record with the head's count and tag, both, is the head's.
func TestHistoryLooksAtCountAndTag(t *testing.T) {
	r := lay(t, 5000, 8)
	who := r.opens()
	h := r.commits(who, root(1))
	for n := 0; ; n++ { // a record with the tag alone
		x := committedBehind(h, root(n))
		w, head := r.write(x)
		if head.Tag == h.Tag {
			r.aside("a record with the head's tag and another count", func(d *media.Device) {
				d.Cut(openedFrame)
				d.Append([]byte(w))
			})
			break
		}
	}
	r.refusesHistory("the tag alone", who, api.ErrStale, "read")

	r = lay(t, 5000, 256)
	who = r.opens()
	h = r.commits(who, root(1))
	x := committedBehind(r.models[who].head, root(7))
	x.Count = h.Count
	w, _ := r.write(x)
	r.aside("a record with the head's count and another tag", func(d *media.Device) {
		d.Cut(openedFrame)
		d.Append([]byte(w))
	})
	r.refusesHistory("the count alone", who, api.ErrStale, "read")
}
