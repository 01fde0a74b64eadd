package media_test

import (
	"slices"
	"testing"

	"cairn/api"
	"cairn/media"
)

func TestChooseComesInsteadOfWhatWasToCome(t *testing.T) {
	crash, hide := choice(api.Crash, 0, 0), choice(api.Drop, 0, 0)
	b := loadBoth(t, full(), crash, crash, crash)
	b.choose(hide)
	want(t, "P8.6", "Read by the new choice", b.do("P8.6", read()), reply{})
	want(t, "P8.6", "Read behind the new choices", b.do("P8.6", read()), told("abcd"))
	b.choose(crash, hide)
	b.choose()
	want(t, "P8.6", "Read behind a Choose of nothing", b.do("P8.6", read()), told("abcd"))
	b.choose(repeat(hide, 4096)...)
	for range 4096 {
		want(t, "P8.6", "Read by one of 4096", b.do("P8.6", read()), reply{})
	}
	want(t, "P8.6", "Read behind 4096", b.do("P8.6", read()), told("abcd"))
	if n := len(b.d.Accesses()); n != 2+1+4097 {
		t.Errorf("P8.6: %d accesses: Choose is one of them", n)
	}
}

func TestChoicesStayBehindAWrongChoose(t *testing.T) {
	hide := choice(api.Drop, 0, 0)
	for _, l := range [][]api.Choice{{{Kind: -1}}, {{Kind: 8}}, {{N: -1}}, {{M: -1}}, {{}, {}, {Kind: 8}}, make([]api.Choice, 4097)} {
		b := loadBoth(t, full(), hide, hide, alter(1, 0))
		b.do("P8.6", read())
		if e := b.d.Choose(l...); e != api.ErrInput {
			t.Errorf("P8.6: %d choices that may not be: %d", len(l), e)
		}
		want(t, "P8.6", "the choice still to come", b.do("P8.6", read()), reply{})
		want(t, "P8.6", "the one behind it", b.do("P8.6", read()), told("accd"))
		want(t, "P8.6", "behind them all", b.do("P8.6", read()), told("abcd"))
	}
}

func TestDownAndUp(t *testing.T) {
	for _, how := range []int{api.Torn, api.Crash, api.After} {
		b := loadBoth(t, full(), choice(how, 0, 0), choice(how, 0, 0))
		for range 2 {
			if b.d.Down() {
				t.Fatalf("P8.6: down ahead of the access")
			}
			b.do("P8.6", read())
			if !b.d.Down() || !b.d.Down() {
				t.Fatalf("P8.6: up behind a choice of kind %d", how)
			}
			b.up()
			b.d.Up()
			if b.d.Down() {
				t.Fatalf("P8.6: down behind Up")
			}
		}
		want(t, "P8.6", "Read", b.do("P8.6", read()), told("abcd"))
		b.probe("P8.6")
	}
}

func TestChooseOfADeviceThatIsDown(t *testing.T) {
	b := loadBoth(t, full(), choice(api.Crash, 0, 0), choice(api.Crash, 0, 0))
	b.do("P8.6", read())
	b.choose(choice(api.Drop, 0, 0))
	if !b.d.Down() {
		t.Errorf("P8.6: Choose takes a device up")
	}
	if e := b.d.Choose(api.Choice{Kind: 8}); e != api.ErrInput {
		t.Errorf("P8.6: a wrong Choose of a device that is down: %d", e)
	}
	b.up()
	want(t, "P8.6", "Read by the new choice", b.do("P8.6", read()), reply{})
	want(t, "P8.6", "Read behind it", b.do("P8.6", read()), told("abcd"))
}

func TestMediaAndAccessesOfADeviceThatIsDown(t *testing.T) {
	b := loadBoth(t, full())
	b.all(put(key(1), "new"), trim(1), set(8, 1))
	b.by(torn(1), add("z"))
	m := full()
	m.Blobs[0].Data, m.Log, m.Reg = []byte("new"), []byte("bcdz"), api.Register{Count: 8, Tag: key(1)}
	acc := []api.Access{{Kind: 2, Done: true}, {Kind: 7, Done: true}, {Kind: 10, Done: true}, {Kind: 6, Choice: 5}}
	for _, what := range []string{"down", "up"} {
		if got := b.d.Media(); !sameMedia(got, m) {
			t.Errorf("P8.6: %s: Media() = %+v", what, got)
		}
		if got := b.d.Accesses(); !slices.Equal(got, acc) {
			t.Errorf("P8.6: %s: Accesses() = %v", what, got)
		}
		b.d.Up()
	}
}

func TestNoneOfTheseIsAnAccess(t *testing.T) {
	hide := choice(api.Drop, 0, 0)
	d, _ := media.Load(full(), hide)
	d.Up()
	d.Down()
	d.Media()
	d.Accesses()
	d.Choose(hide)
	if len(d.Accesses()) != 0 {
		t.Errorf("P8.6: %v", d.Accesses())
	}
	if b, e := d.Read(); len(b) != 0 || e != api.OK {
		t.Errorf("P8.6: one of them has taken the choice: %q", b)
	}
}

func TestWorkedExamples(t *testing.T) {
	for _, c := range []struct {
		slots, room int
		choices     []api.Choice
		e           api.Errno
	}{{0, 5, nil, api.ErrSlots}, {4097, 5, nil, api.ErrSlots}, {1, -1, nil, api.ErrSlots}, {1, 1<<20 + 1, nil, api.ErrSlots},
		{1, 5, []api.Choice{{Kind: 8}}, api.ErrInput}, {1, 5, []api.Choice{{Kind: 1, N: -1}}, api.ErrInput}} {
		if d, e := media.New(c.slots, c.room, c.choices...); d != nil || e != c.e {
			t.Errorf("example 1: New(%d, %d, %v) = %d", c.slots, c.room, c.choices, e)
		}
	}
	b := newBoth(t, 2, 10)
	b.all(put(key(1), "ab"), put(key(2), "c"))
	want(t, "example 2", "Put(3)", b.do("P8.4", put(key(3), "d")), refused(api.ErrFull))
	b.all(put(key(1), "x"))
	want(t, "example 2", "Get(1)", b.do("P8.4", get(key(1))), told("x"))
	b.all(drop(key(2)))
	want(t, "example 2", "Get(2)", b.do("P8.4", get(key(2))), refused(api.ErrAbsent))
	want(t, "example 2", "List()", b.do("P8.4", list()), keys(key(1)))
	b = newBoth(t, 2, 10)
	b.all(add("hello"), add("world"))
	want(t, "example 3", "Append", b.do("P8.4", add("!")), refused(api.ErrFull))
	b.all(trim(2), cut(4))
	want(t, "example 3", "Read", b.do("P8.4", read()), told("llow"))
	want(t, "example 3", "Trim(5)", b.do("P8.4", trim(5)), refused(api.ErrRange))
	b.all(add(""))
	b = newBoth(t, 2, 10)
	b.all(put(key(1), "ab"))
	want(t, "example 4", "Get(1) by Alter", b.by(alter(3, 31), get(key(1))), told("aB"))
	want(t, "example 4", "Get(1) by Drop", b.by(choice(api.Drop, 0, 0), get(key(1))), refused(api.ErrAbsent))
	b.all(put(key(1), "cd"))
	want(t, "example 4", "Get(1) by Replay", b.by(replay(2), get(key(1))), told("ab"))
	b = newBoth(t, 2, 10)
	b.all(add("ab"), put(key(1), "x"), add("cd"))
	want(t, "example 5", "Read() by Rollback", b.by(rollback(2), read()), told("ab"))
	want(t, "example 5", "List()", b.do("P8.5", list()), reply{})
	b.changes(4)
	b = newBoth(t, 2, 10)
	want(t, "example 6", "Append by Torn", b.by(torn(5), add("xyz")), refused(api.ErrDown))
	want(t, "example 6", "Read() while down", b.do("P8.3", read()), refused(api.ErrDown))
	b.up()
	want(t, "example 6", "Read()", b.do("P8.5", read()), told("x"))
	want(t, "example 6", "SetReg by After", b.by(choice(api.After, 0, 0), set(1, 7)), refused(api.ErrDown))
	b.up()
	want(t, "example 6", "Reg()", b.do("P8.5", reg()), reply{reg: api.Register{Count: 1, Tag: key(7)}})
	want(t, "example 6", "SetReg of the same counter", b.do("P8.4", set(1, 8)), refused(api.ErrOld))
	n := len(b.d.Accesses())
	want(t, "example 6", "SetReg of counter 0", b.do("P8.3", set(0, 7)), refused(api.ErrInput))
	if len(b.d.Accesses()) != n {
		t.Errorf("example 6: what may not be is an access")
	}
}
