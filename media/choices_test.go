package media_test

import (
	"math"
	"strings"
	"testing"

	"cairn/api"
)

// want holds an answer against what the chapter says.
func want(t *testing.T, promise, what string, got, want reply) {
	t.Helper()
	if got != want {
		t.Errorf("%s: %s answers %v, not %v", promise, what, got, want)
	}
}

// by does an op by one choice.
func (b *both) by(c api.Choice, o op) reply {
	b.t.Helper()
	b.choose(c)
	return b.do("P8.5", o)
}

func told(s string) reply        { return reply{bytes: s} }
func refused(e api.Errno) reply  { return reply{e: e} }
func keys(all ...api.Hash) reply { return reply{keys: joined(all)} }
func alter(n, m int) api.Choice  { return choice(api.Alter, n, m) }
func replay(n int) api.Choice    { return choice(api.Replay, n, 0) }
func rollback(n int) api.Choice  { return choice(api.Rollback, n, 0) }
func torn(n int) api.Choice      { return choice(api.Torn, n, 0) }
func (b *both) all(ops ...op) {
	b.t.Helper()
	for _, o := range ops {
		if r := b.do("P8.4", o); r.e != api.OK {
			b.t.Fatalf("P8.4: %v answers %d", o, r.e)
		}
	}
}

func TestAlterTold(t *testing.T) {
	b := newBoth(t, 4, 20)
	b.all(put(key(1), "abc"), add("\x00\x00\x00"))
	for _, c := range []struct {
		c   api.Choice
		get string
		log string
	}{
		{alter(0, 0), "`bc", "\x01\x00\x00"},
		{alter(2, 0), "abb", "\x00\x00\x01"},
		{alter(3, 0), "`bc", "\x01\x00\x00"},
		{alter(4, 31), "aBc", "\x00\x20\x00"},
		{alter(1, 254), "a\x9dc", "\x00\xff\x00"},
		{alter(1, 255), "acc", "\x00\x01\x00"},
		{alter(1, 256), "a`c", "\x00\x02\x00"},
		{alter(1, 509), "a\x9dc", "\x00\xff\x00"},
		{alter(1, 510), "acc", "\x00\x01\x00"},
		{alter(math.MaxInt, math.MaxInt), "a\xe2c", "\x00\x80\x00"}, // 2^63 - 1 is 1 mod 3 and 127 mod 255
	} {
		want(t, "P8.5", "Get", b.by(c.c, get(key(1))), told(c.get))
		want(t, "P8.5", "Read", b.by(c.c, read()), told(c.log))
	}
	want(t, "P8.5", "Get behind it", b.do("P8.5", get(key(1))), told("abc"))
	want(t, "P8.5", "Read behind it", b.do("P8.5", read()), told("\x00\x00\x00"))
}

func TestAlterKeys(t *testing.T) {
	b := newBoth(t, 4, 20)
	b.all(put(key(1), ""), put(key(2), ""), put(key(3), ""))
	for n, k := range map[int][3]api.Hash{
		0:           {{5}, {2}, {3}},
		1:           {{1, 4}, {2}, {3}},
		31:          {{0: 1, 31: 4}, {2}, {3}},
		32:          {{1}, {6}, {3}},
		63:          {{1}, {0: 2, 31: 4}, {3}},
		95:          {{1}, {2}, {0: 3, 31: 4}},
		96:          {{5}, {2}, {3}},
		96*1000 + 5: {{0: 1, 5: 4}, {2}, {3}},
	} {
		want(t, "P8.5", "List", b.by(alter(n, 3), list()), keys(k[:]...))
	}
	want(t, "P8.5", "List by a choice that makes one key of two", b.by(alter(0, 2), list()), keys(key(2), key(2), key(3)))
	want(t, "P8.5", "List behind it", b.do("P8.5", list()), keys(key(1), key(2), key(3)))
}

func TestAlterWritten(t *testing.T) {
	b := newBoth(t, 2, 5)
	want(t, "P8.5", "Put", b.by(alter(4, 31), put(key(1), "abc")), reply{})
	want(t, "P8.5", "Get behind it", b.do("P8.5", get(key(1))), told("aBc"))
	want(t, "P8.5", "Append", b.by(alter(2, 31), add("xyz")), reply{})
	want(t, "P8.5", "Append", b.by(alter(2, 31), add("kl")), reply{})
	want(t, "P8.5", "Read behind it", b.do("P8.5", read()), told("xyZKl"))
	want(t, "P8.5", "Append without room", b.by(alter(0, 0), add("x")), refused(api.ErrFull))
	b.all(put(key(2), "x"))
	want(t, "P8.5", "Put without a slot", b.by(alter(0, 0), put(key(3), "x")), refused(api.ErrFull))
	want(t, "P8.5", "Replay of what was altered", b.by(replay(0), get(key(1))), told("aBc"))
	b.probe("P8.5")
}

func TestAlterWithoutAByte(t *testing.T) {
	b := newBoth(t, 1, 0)
	for _, c := range []api.Choice{alter(0, 0), alter(7, 9)} {
		want(t, "P8.5", "Get of nothing", b.by(c, get(key(1))), refused(api.ErrAbsent))
		want(t, "P8.5", "List of nothing", b.by(c, list()), reply{})
		want(t, "P8.5", "Read of nothing", b.by(c, read()), reply{})
		want(t, "P8.5", "Append of nothing", b.by(c, add("")), reply{})
		want(t, "P8.5", "Trim of nothing", b.by(c, trim(0)), reply{})
		want(t, "P8.5", "Cut of nothing", b.by(c, cut(0)), reply{})
		want(t, "P8.5", "Trim of one", b.by(c, trim(1)), refused(api.ErrRange))
		want(t, "P8.5", "Delete of nothing", b.by(c, drop(key(1))), refused(api.ErrAbsent))
		want(t, "P8.5", "Put of nothing", b.by(c, put(key(1), "")), reply{})
		want(t, "P8.5", "Get of an empty blob", b.by(c, get(key(1))), reply{})
		want(t, "P8.5", "Delete", b.by(c, drop(key(1))), reply{})
	}
}

func TestDrop(t *testing.T) {
	c := choice(api.Drop, 3, 4)
	b := newBoth(t, 1, 5)
	b.all(put(key(1), "abc"), add("hello"))
	was := b.d.Media()
	want(t, "P8.5", "Get", b.by(c, get(key(1))), refused(api.ErrAbsent))
	want(t, "P8.5", "List", b.by(c, list()), reply{})
	want(t, "P8.5", "Read", b.by(c, read()), reply{})
	want(t, "P8.5", "Put", b.by(c, put(key(1), "x")), reply{})
	want(t, "P8.5", "Put without a slot", b.by(c, put(key(2), "x")), refused(api.ErrFull))
	want(t, "P8.5", "Delete", b.by(c, drop(key(1))), reply{})
	want(t, "P8.5", "Delete of nothing", b.by(c, drop(key(2))), refused(api.ErrAbsent))
	want(t, "P8.5", "Append of nothing", b.by(c, add("")), reply{})
	want(t, "P8.5", "Append without room", b.by(c, add("x")), refused(api.ErrFull))
	want(t, "P8.5", "Trim", b.by(c, trim(5)), reply{})
	want(t, "P8.5", "Trim beyond", b.by(c, trim(6)), refused(api.ErrRange))
	want(t, "P8.5", "Cut", b.by(c, cut(0)), reply{})
	want(t, "P8.5", "Cut beyond", b.by(c, cut(-1)), refused(api.ErrRange))
	if !sameMedia(b.d.Media(), was) {
		t.Errorf("P8.5: dropped accesses have changed the device")
	}
	want(t, "P8.5", "Replay behind a dropped Put", b.by(replay(1), get(key(1))), told("abc"))
	b.all(cut(1))
	want(t, "P8.5", "Append with room", b.by(c, add("x")), reply{})
	want(t, "P8.5", "Read behind it", b.do("P8.5", read()), told("h"))
	b.probe("P8.5")
}

func TestReplayOfVersions(t *testing.T) {
	b := newBoth(t, 2, 9)
	want(t, "P8.5", "Get of a key without versions", b.by(replay(0), get(key(1))), refused(api.ErrAbsent))
	b.all(put(key(1), "a"), put(key(1), "b"), put(key(1), "a"), put(key(1), "a")) // also with the same string
	b.all(put(key(2), "other"))
	b.choose(alter(0, 0), torn(2), choice(api.Drop, 0, 0), choice(api.After, 0, 0))
	b.all(put(key(1), "e"))          // d: turned on its way
	b.do("P8.5", put(key(1), "xyz")) // xy: torn
	b.up()
	b.all(put(key(1), "never"))
	b.do("P8.5", put(key(1), "f"))
	b.up()
	b.all(drop(key(1)))
	versions := []string{"a", "b", "a", "a", "d", "xy", "f"}
	for n := range 20 {
		want(t, "P8.5", "Get of a version", b.by(replay(n), get(key(1))), told(versions[n%7]))
	}
	want(t, "P8.5", "Get of the greatest number", b.by(replay(math.MaxInt), get(key(1))), told(versions[math.MaxInt%7]))
	b.by(rollback(4), list()) // a rollback adds none
	b.by(rollback(1), list())
	for n := range 20 {
		want(t, "P8.5", "Get of a version behind a rollback", b.by(replay(n), get(key(1))), told(versions[n%7]))
	}
	want(t, "P8.5", "Get of another key's", b.by(replay(1), get(key(2))), told("other"))
	b.probe("P8.5")
}

func TestReplayOfPut(t *testing.T) {
	b := newBoth(t, 2, 9)
	want(t, "P8.5", "Put of a key without versions", b.by(replay(0), put(key(1), "x")), reply{})
	want(t, "P8.5", "Get behind it", b.do("P8.5", get(key(1))), refused(api.ErrAbsent))
	want(t, "P8.5", "Replay behind it", b.by(replay(0), get(key(1))), refused(api.ErrAbsent))
	b.all(put(key(1), "a"), put(key(1), "b"))
	want(t, "P8.5", "Put", b.by(replay(4), put(key(1), "c")), reply{})
	want(t, "P8.5", "Get behind it", b.do("P8.5", get(key(1))), told("a"))
	for n, s := range []string{"a", "b", "a", "a", "b"} { // what was stored is a third version
		want(t, "P8.5", "Get of a version", b.by(replay(n), get(key(1))), told(s))
	}
	b.all(put(key(2), "y"), drop(key(1)))
	want(t, "P8.5", "Put of a key that is gone", b.by(replay(1), put(key(1), "c")), reply{})
	want(t, "P8.5", "Get behind it", b.do("P8.5", get(key(1))), told("b"))
	want(t, "P8.5", "Put of a key without versions and without a slot", b.by(replay(1), put(key(3), "c")), refused(api.ErrFull))
	b.all(drop(key(1)))
	b.choose()
	b.all(put(key(3), "z"))
	want(t, "P8.5", "Put of a key with versions, without a slot", b.by(replay(1), put(key(1), "c")), refused(api.ErrFull))
	b.probe("P8.5")
}

func TestReplayOfTheRest(t *testing.T) {
	b := newBoth(t, 2, 9)
	b.all(add("ab"), put(key(1), "x"), add("cd"), put(key(2), "y"), drop(key(1)), trim(1))
	logs := []string{"bcd", "abcd", "abcd", "abcd", "ab", "ab", ""}
	lists := []reply{keys(key(2)), keys(key(2)), keys(key(1), key(2)), keys(key(1)), keys(key(1)), reply{}, reply{}}
	for n := range 20 {
		want(t, "P8.5", "Read of an earlier time", b.by(replay(n), read()), told(logs[n%7]))
		want(t, "P8.5", "List of an earlier time", b.by(replay(n), list()), lists[n%7])
	}
	want(t, "P8.5", "Delete", b.by(replay(1), drop(key(2))), reply{})
	want(t, "P8.5", "Delete of nothing", b.by(replay(1), drop(key(1))), refused(api.ErrAbsent))
	want(t, "P8.5", "Get behind it", b.do("P8.5", get(key(2))), told("y"))
	want(t, "P8.5", "Append", b.by(replay(2), add("ef")), reply{})
	want(t, "P8.5", "Trim", b.by(replay(2), trim(1)), reply{})
	want(t, "P8.5", "Cut", b.by(replay(2), cut(3)), reply{})
	want(t, "P8.5", "Read", b.do("P8.5", read()), told("cde"))
	b.probe("P8.5")
}

// changes asks how many changes a device has made, by logs that all differ.
func (b *both) changes(want int) {
	b.t.Helper()
	if got := len(b.m.ahead); got != want {
		b.t.Fatalf("the model has %d changes, not %d, behind %s", got, want, b.story())
	}
	b.probe("P8.5")
}

func TestWhatIsAChange(t *testing.T) {
	b := newBoth(t, 2, 9)
	b.all(add(""), trim(0), cut(0), list(), read(), reg(), set(1, 1))
	b.do("P8.4", get(key(1)))
	b.do("P8.4", drop(key(1)))
	b.changes(0)
	b.all(put(key(1), ""))
	b.changes(1)
	b.all(put(key(1), ""))
	b.changes(1)
	b.all(put(key(1), "a"))
	b.changes(2)
	b.all(put(key(1), "a"), add("x"))
	b.changes(3)
	b.all(add("yz"), cut(3), trim(0))
	b.changes(4)
	b.all(cut(2), trim(1), trim(1), drop(key(1)))
	b.changes(8)
	b.do("P8.4", drop(key(1)))
	b.by(torn(0), add("abc"))
	b.up()
	b.by(choice(api.Crash, 0, 0), add("abc"))
	b.up()
	b.by(choice(api.Drop, 0, 0), add("abc"))
	b.changes(8)
	b.by(torn(0), put(key(1), "abc"))
	b.up()
	b.changes(9)
	b.by(choice(api.After, 0, 0), add("abc"))
	b.up()
	b.changes(10)
}

func TestRollback(t *testing.T) {
	start := []op{add("ab"), put(key(1), "x"), add("cd"), put(key(1), "y"), trim(1)}
	logs := []string{"bcd", "abcd", "abcd", "ab", "ab", ""}
	blobs := []string{"y", "y", "x", "x", "-", "-"}
	for n := range 14 {
		b := newBoth(t, 2, 9)
		b.all(start...)
		b.all(set(3, 4))
		want(t, "P8.5", "Read by a rollback", b.by(rollback(n), read()), told(logs[n%6]))
		if blobs[n%6] == "-" {
			want(t, "P8.5", "Get behind a rollback", b.do("P8.5", get(key(1))), refused(api.ErrAbsent))
		} else {
			want(t, "P8.5", "Get behind a rollback", b.do("P8.5", get(key(1))), told(blobs[n%6]))
		}
		want(t, "P8.9", "Reg behind a rollback", b.do("P8.9", reg()), reply{reg: api.Register{Count: 3, Tag: key(4)}})
		if n%6 == 0 {
			b.changes(5)
		} else {
			b.changes(6)
		}
		b.by(rollback(1), list()) // and back again
		if n%6 != 0 {
			want(t, "P8.5", "Read behind a rollback of a rollback", b.do("P8.5", read()), told("bcd"))
			want(t, "P8.5", "Get behind a rollback of a rollback", b.do("P8.5", get(key(1))), told("y"))
		}
	}
}

func TestRollbackIsOneChangeOrNone(t *testing.T) {
	b := newBoth(t, 3, 9)
	b.all(put(key(1), "x"), put(key(2), "y"), add("ab"))
	want(t, "P8.5", "Append by a rollback", b.by(rollback(1), add("ab")), reply{})
	b.changes(3) // it is as it was
	want(t, "P8.5", "Append by a rollback", b.by(rollback(1), add("abc")), reply{})
	b.changes(4)
	want(t, "P8.5", "Put by a rollback", b.by(rollback(4), put(key(1), "x")), reply{})
	b.changes(5)
	want(t, "P8.5", "Read", b.do("P8.5", read()), reply{})
	want(t, "P8.5", "List", b.do("P8.5", list()), keys(key(1)))
	want(t, "P8.5", "Delete by a rollback, of a blob that was not there", b.by(rollback(5), drop(key(1))), refused(api.ErrAbsent))
	b.changes(6)
	b.all(put(key(1), "x"))
	b.changes(7)
	want(t, "P8.5", "Put by a rollback, of what stood there", b.by(rollback(1), put(key(1), "x")), reply{})
	b.changes(7)
	want(t, "P8.5", "Put by a rollback that brings nothing", b.by(rollback(8), put(key(3), "z")), reply{})
	b.changes(8)
	want(t, "P8.5", "Reg by a rollback", b.by(rollback(5), reg()), reply{})
	want(t, "P8.5", "SetReg by a rollback", b.by(rollback(5), set(1, 1)), reply{})
	b.changes(8)
}

func TestRollbackAheadOfWhatIsRefused(t *testing.T) {
	b := newBoth(t, 1, 4)
	b.all(put(key(1), "x"), add("abcd"))
	want(t, "P8.5", "Append that was without room", b.by(rollback(1), add("efgh")), reply{})
	want(t, "P8.5", "Append", b.by(rollback(0), add("i")), refused(api.ErrFull))
	want(t, "P8.5", "Put that was without a slot", b.by(rollback(3), put(key(2), "y")), reply{})
	want(t, "P8.5", "Trim beyond what it was", b.by(rollback(0), trim(1)), refused(api.ErrRange))
	want(t, "P8.5", "Cut of what it was", b.by(rollback(1), cut(4)), reply{})
	want(t, "P8.5", "Read", b.do("P8.5", read()), told("efgh"))
	b.probe("P8.5")
}

func TestTorn(t *testing.T) {
	data := "wxyz"
	for n := range 12 {
		b := newBoth(t, 2, 9)
		b.all(put(key(1), "old"), put(key(2), "other"), add("log"))
		b.all(set(1, 1))
		part := data[:n%5]
		want(t, "P8.5", "a torn Put", b.by(torn(n), put(key(1), data)), refused(api.ErrDown))
		b.up()
		want(t, "P8.10", "Get of what was torn", b.do("P8.5", get(key(1))), told(part))
		want(t, "P8.5", "Get of a torn version", b.by(replay(1), get(key(1))), told(part))
		want(t, "P8.10", "Get of another one", b.do("P8.5", get(key(2))), told("other"))
		want(t, "P8.5", "a torn Append", b.by(torn(n), add(data)), refused(api.ErrDown))
		b.up()
		want(t, "P8.10", "Read of what was torn", b.do("P8.5", read()), told("log"+part))
		b.probe("P8.5")
	}
	b := newBoth(t, 1, 3)
	b.all(put(key(1), "old"), add("log"))
	was := b.d.Media()
	for n := range 5 {
		for _, o := range []op{put(key(2), "wxyz"), add("wxyz"), add("w"), get(key(1)), drop(key(1)), list(), read(), trim(1), cut(1), trim(9)} {
			want(t, "P8.5", "torn", b.by(torn(n), o), refused(api.ErrDown))
			if !sameMedia(b.d.Media(), was) {
				t.Fatalf("P8.5: %v, torn, has changed the device", o)
			}
			b.up()
		}
	}
	want(t, "P8.5", "a torn Append of nothing", b.by(torn(7), add("")), refused(api.ErrDown))
	b.probe("P8.5")
}

func TestTornOfTheGreatest(t *testing.T) {
	for _, n := range []int{0, 1, 1023, 1024, 1025, math.MaxInt} {
		b := newBoth(t, 1, 3)
		long := strings.Repeat("x", 1024)
		b.by(torn(n), put(key(1), long))
		b.up()
		want(t, "P8.5", "Get", b.do("P8.5", get(key(1))), told(long[:n%1025]))
	}
}

func TestAfterWhateverTheAnswer(t *testing.T) {
	for _, s := range situations() {
		for _, o := range allOps(len(s.in(t).m.now.log)) {
			b, plain := s.in(t), s.in(t)
			plain.do("P8.4", o)
			want(t, "P8.5", "After", b.by(choice(api.After, 1, 2), o), refused(api.ErrDown))
			if !b.d.Down() || !sameMedia(b.d.Media(), plain.d.Media()) {
				t.Fatalf("P8.10: %s: over an After %v has not done as by Honest", s.name, o)
			}
			b.probe("P8.5")
		}
	}
}

func TestCrash(t *testing.T) {
	for _, s := range situations() {
		for _, o := range allOps(len(s.in(t).m.now.log)) {
			b := s.in(t)
			was := b.d.Media()
			want(t, "P8.5", "Crash", b.by(choice(api.Crash, 1, 2), o), refused(api.ErrDown))
			if !b.d.Down() || !sameMedia(b.d.Media(), was) {
				t.Fatalf("P8.10: %s: over a Crash %v has changed something", s.name, o)
			}
		}
	}
}

func TestRegisterByEveryChoice(t *testing.T) {
	for kind := range api.Choices {
		for n := range 4 {
			b := newBoth(t, 2, 9)
			b.all(add("ab"), put(key(1), "x"), set(5, 1))
			was := b.d.Media()
			down := kind == api.Crash || kind == api.After
			answer := func(r reply) reply {
				if down {
					return refused(api.ErrDown)
				}
				return r
			}
			c := choice(kind, n, n)
			want(t, "P8.5", "Reg", b.by(c, reg()), answer(reply{reg: api.Register{Count: 5, Tag: key(1)}}))
			b.up()
			want(t, "P8.5", "SetReg of the same counter", b.by(c, set(5, 2)), answer(refused(api.ErrOld)))
			b.up()
			want(t, "P8.5", "SetReg of one below", b.by(c, set(4, 2)), answer(refused(api.ErrOld)))
			b.up()
			if !sameMedia(b.d.Media(), was) {
				t.Errorf("P8.5: Reg or a refused SetReg by a choice of kind %d has changed something", kind)
			}
			want(t, "P8.5", "SetReg", b.by(c, set(6, 2)), answer(reply{}))
			b.up()
			if kind != api.Crash {
				was.Reg = api.Register{Count: 6, Tag: key(2)}
			}
			if !sameMedia(b.d.Media(), was) {
				t.Errorf("P8.5: SetReg by a choice of kind %d: %+v", kind, b.d.Media().Reg)
			}
			b.changes(2)
		}
	}
}
