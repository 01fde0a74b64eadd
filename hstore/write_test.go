package hstore_test

import (
	"strings"
	"testing"

	"cairn/api"
)

// wantMade does an op, and holds its answer and the kinds of its accesses against those that the test names.
func (r *rig) wantMade(promise string, o op, w reply, made string) {
	r.t.Helper()
	if got := r.made(func() { r.want(promise, o, w) }); got != made {
		r.t.Errorf("%s, P10.12: %v makes the accesses %q, not %q, behind %s", promise, o, got, made, r.tale())
	}
}

func TestPutOfWhatIsThereAlready(t *testing.T) {
	for _, size := range []int{0, 1, 4} {
		r := lay(t, 8, 256, size)
		x := r.hash("x")
		r.wantMade("P10.6", put("x"), wrote(x), "get put ")
		r.wantMade("P10.6: it is there", put("x"), wrote(x), "get ")
		r.do("P10.8", forget())
		r.wantMade("P10.6: it is there, not in the cache", put("x"), wrote(x), "get ")
		r.want("P10.4", node(x), told("x"))
		if m := r.d.Media(); len(m.Blobs) != 1 || m.Blobs[0].Key != x || string(m.Blobs[0].Data) != "x" {
			t.Errorf("P10.6: the device has %v", m.Blobs)
		}
	}
}

func TestPutOverWhatIsNotRight(t *testing.T) {
	for _, there := range []string{"", "y", "x?", strings.Repeat("z", 1024)} {
		for _, size := range []int{0, 4} {
			r := lay(t, 1, 256, size) // full, but for the key that is there
			x := r.hash("x")
			r.raw(x, there)
			r.want("P10.5", fresh(x), refused(api.ErrNode))
			r.wantMade("P10.6", put("x"), wrote(x), "get put ")
			r.want("P10.6", fresh(x), told("x"))
			if got := string(r.d.Media().Blobs[0].Data); got != "x" {
				t.Errorf("P10.6: the device has %q", got)
			}
		}
	}
}

func TestPutBringsOutOfQuarantineAndIntoTheCache(t *testing.T) {
	for _, how := range standings {
		r := lay(t, 8, 256, 1)
		x, s := r.hash("x"), "x"
		r.do("P10.6", put("older"))
		r.want("P10.5", fresh(x), refused(api.ErrNode))
		r.want("P10.5", fresh(r.hash("lost")), refused(api.ErrNode))
		r.stand(how, s)
		made := "get put "
		if how == "right" || how == "mended" || how == "put twice" {
			made = "get "
		}
		r.wantMade("P10.6", put(s), wrote(x), made)
		r.state("P10.6", list(x), list(r.hash("lost")))
	}
}

func TestPutOfWhatIsInTheCacheAndGoneFromTheDevice(t *testing.T) {
	r := lay(t, 8, 256, 2)
	x, y := r.hash("x"), r.hash("y")
	r.do("P10.6", put("x"))
	r.do("P10.6", put("y"))
	r.lose(x)
	r.wantMade("P10.6", put("x"), wrote(x), "get put ")
	r.state("P10.3: it stays at its place", list(x, y), list())
	r.raw(x, "altered")
	r.wantMade("P10.6", put("x"), wrote(x), "get put ")
	r.state("P10.3: it stays at its place", list(x, y), list())
	r.want("P10.6", fresh(x), told("x"))
}

// Cache and quarantine are as they were behind a Put with an error, whichever access has met it.
func TestPutThatIsRefusedLearnsNothing(t *testing.T) {
	type refusal struct {
		choices []api.Choice
		e       api.Errno
		made    string
	}
	for _, c := range []refusal{
		{nil, api.ErrFull, "get put "},
		{honest(0, choice(api.Crash, 0)), api.ErrDown, "get "},
		{honest(0, choice(api.Torn, 1)), api.ErrDown, "get "},
		{honest(0, choice(api.After, 0)), api.ErrDown, "get "},
		{honest(1, choice(api.Crash, 0)), api.ErrDown, "get put "},
		{honest(1, choice(api.Torn, 1)), api.ErrDown, "get put "},
		{honest(1, choice(api.After, 0)), api.ErrDown, "get put "},
		{honest(1, choice(api.Alter, 0)), api.ErrFull, "get put "},
		{honest(1, choice(api.Drop, 0)), api.ErrFull, "get put "},
		{honest(0, choice(api.Drop, 0)), api.ErrFull, "get put "},
	} {
		for _, size := range []int{0, 1, 2} {
			for _, waits := range []bool{false, true} {
				r := lay(t, 1, 256, size)
				x := r.hash("xyz")
				r.do("P10.6", put("older"))
				bad := list()
				if waits {
					r.want("P10.5", fresh(x), refused(api.ErrNode))
					bad = list(x)
				}
				cached := list(r.stores[0].Cached()...)
				r.choose(c.choices...)
				r.wantMade("P10.6", put("xyz"), refused(c.e), c.made)
				r.state("P10.6: with an error nothing has changed", cached, bad)
				r.up()
				r.want("P10.5", fresh(r.hash("older")), told("older"))
			}
		}
	}
}

func TestPutOfADeviceThatIsDown(t *testing.T) {
	r := lay(t, 8, 256, 2)
	r.choose(choice(api.Crash, 0))
	r.want("P10.6", put("x"), refused(api.ErrDown))
	r.wantMade("P10.6", put("x"), refused(api.ErrDown), "")
	r.want("P10.6: ahead of the device's error", put(""), refused(api.ErrInput))
	r.want("P10.7: ahead of the device's error", mend(""), refused(api.ErrInput))
	r.want("P10.7: ahead of the device's error", mend("x"), refused(api.ErrUnwanted))
	r.state("P10.6", list(), list())
}

// A torn writing is met again: the blob that stands there then is a beginning.
func TestPutBehindATornPut(t *testing.T) {
	for n := range 4 {
		r := lay(t, 8, 256, 2)
		r.choose(honest(1, choice(api.Torn, n))...)
		r.want("P10.6", put("xyz"), refused(api.ErrDown))
		r.up()
		made := "get put "
		if n == 3 { // all of it was written
			made = "get "
		}
		r.wantMade("P10.6", put("xyz"), wrote(r.hash("xyz")), made)
		r.want("P10.5", fresh(r.hash("xyz")), told("xyz"))
		r.state("P10.6", list(r.hash("xyz")), list())
	}
}

// What is there may be told wrong: then it is written once more, and no hash comes into the quarantine.
func TestPutByEveryChoice(t *testing.T) {
	for _, how := range standings {
		for first := range api.Choices {
			for second := range api.Choices {
				for n := range 4 {
					r := lay(t, 8, 256, 2)
					r.do("P10.6", put("older"))
					r.stand(how, "blob")
					r.choose(choice(first, n), choice(second, n))
					got := r.do("P10.6", put("blob"))
					if got != wrote(r.hash("blob")) && got != refused(api.ErrDown) {
						t.Fatalf("P10.6: %v, behind %s", got, r.tale())
					}
					if got.e == api.OK {
						r.state("P10.6", list(r.hash("older"), r.hash("blob")), list())
					} else {
						r.state("P10.6", list(r.hash("older")), list())
					}
					r.up()
					r.do("P10.5", fresh(r.hash("blob")))
					r.do("P10.7", mend("blob"))
					r.do("P10.5", fresh(r.hash("blob")))
				}
			}
		}
	}
}

func TestPutClashes(t *testing.T) {
	for _, bits := range []int{8, 10} {
		two := clashing(bits, 2, 0)
		h := hashOf(bits, two[0])
		r := lay(t, 8, bits, 2)
		r.wantMade("P10.6", put(two[0]), wrote(h), "get put ")
		r.wantMade("P10.6: by the cache", put(two[1]), refused(api.ErrClash), "")
		r.state("P10.6", list(h), list())
		r.choose(choice(api.Crash, 0))
		r.wantMade("P10.6: ahead of the device's error", put(two[1]), refused(api.ErrClash), "")
		r.choose()
		r.do("P10.8", forget())
		r.wantMade("P10.6: by the device", put(two[1]), refused(api.ErrClash), "get ")
		r.state("P10.6", list(), list())
		r.wantMade("P10.6", put(two[0]), wrote(h), "get ")
		if r.book.Sound() {
			t.Errorf("P10.6: a clash, and a sound book")
		}

		r = lay(t, 8, bits, 0) // without a cache
		r.raw(h, "9999")       // not right
		r.want("P10.5", fresh(h), refused(api.ErrNode))
		r.raw(h, two[0])
		r.wantMade("P10.6: by the device", put(two[1]), refused(api.ErrClash), "get ")
		r.state("P10.6: with an error the quarantine is as it was", list(), list(h))
		r.choose(choice(api.Drop, 0))
		r.wantMade("P10.6: what would clash is not told", put(two[1]), wrote(h), "get put ")
		r.want("P10.5", fresh(h), told(two[1]))
		r.wantMade("P10.6: the other way round now", put(two[0]), refused(api.ErrClash), "get ")
	}
}

func TestMend(t *testing.T) {
	for _, size := range []int{0, 1, 2} {
		for _, how := range standings {
			r := lay(t, 8, 256, size)
			x := r.hash("x")
			r.wantMade("P10.7: nobody waits", mend("x"), refused(api.ErrUnwanted), "")
			r.want("P10.4", node(x), refused(api.ErrNode))
			r.want("P10.4", node(r.hash("lost")), refused(api.ErrNode))
			r.stand(how, "x")
			r.wantMade("P10.7: nobody waits for these", mend("y"), refused(api.ErrUnwanted), "")
			r.wantMade("P10.7", mend("x"), reply{}, "put ")
			r.state("P10.7: nothing comes into the cache", list(), list(r.hash("lost")))
			r.wantMade("P10.7: no more", mend("x"), refused(api.ErrUnwanted), "")
			r.want("P10.5", fresh(x), told("x"))
		}
	}
}

func TestMendOfWhatTheDeviceDoesNotKeep(t *testing.T) {
	for _, c := range []api.Choice{choice(api.Alter, 0), choice(api.Drop, 0)} {
		r := lay(t, 8, 256, 2)
		x := r.hash("x")
		r.want("P10.4", node(x), refused(api.ErrNode))
		r.choose(c)
		r.wantMade("P10.7", mend("x"), reply{}, "put ")
		r.state("P10.7: it has left the quarantine", list(), list())
		r.wantMade("P10.7: the next reading tells", node(x), refused(api.ErrNode), "get ")
		r.wantMade("P10.7: so it can be mended again", mend("x"), reply{}, "put ")
		r.want("P10.4", node(x), told("x"))
	}
}

func TestMendThatIsRefused(t *testing.T) {
	for _, c := range []struct {
		choices []api.Choice
		e       api.Errno
	}{
		{nil, api.ErrFull},
		{honest(0, choice(api.Crash, 0)), api.ErrDown},
		{honest(0, choice(api.Torn, 2)), api.ErrDown},
		{honest(0, choice(api.After, 0)), api.ErrDown},
		{honest(0, choice(api.Alter, 0)), api.ErrFull},
		{honest(0, choice(api.Drop, 0)), api.ErrFull},
	} {
		r := lay(t, 1, 256, 2)
		r.do("P10.6", put("older"))
		r.want("P10.5", fresh(r.hash("x")), refused(api.ErrNode))
		r.choose(c.choices...)
		r.wantMade("P10.7", mend("x"), refused(c.e), "put ")
		r.state("P10.7: with an error nothing has changed", list(r.hash("older")), list(r.hash("x")))
		r.wantMade("P10.7", mend("older"), refused(api.ErrUnwanted), "")
	}
}

func TestMendOfADeviceThatIsDown(t *testing.T) {
	r := lay(t, 8, 256, 2)
	r.want("P10.5", fresh(r.hash("x")), refused(api.ErrNode))
	r.choose(choice(api.Crash, 0))
	r.want("P10.5", fresh(r.hash("y")), refused(api.ErrDown))
	r.wantMade("P10.7", mend("x"), refused(api.ErrDown), "")
	r.state("P10.7", list(), list(r.hash("x")))
	r.up()
	r.wantMade("P10.7", mend("x"), reply{}, "put ")
}

// However much was written as the device went down: it waits still, and is mended once more.
func TestMendBehindATornMend(t *testing.T) {
	for n := range 4 {
		for kind := api.Torn; kind <= api.After; kind++ {
			r := lay(t, 8, 256, 2)
			r.want("P10.5", fresh(r.hash("xyz")), refused(api.ErrNode))
			r.choose(choice(kind, n))
			r.want("P10.7", mend("xyz"), refused(api.ErrDown))
			r.state("P10.7", list(), list(r.hash("xyz")))
			r.up()
			r.wantMade("P10.7", mend("xyz"), reply{}, "put ")
			r.want("P10.5", fresh(r.hash("xyz")), told("xyz"))
		}
	}
}

func TestMendClashes(t *testing.T) {
	for _, bits := range []int{8, 10} {
		two := clashing(bits, 2, 0)
		h := hashOf(bits, two[0])
		r := lay(t, 8, bits, 2)
		r.do("P10.6", put(two[0]))
		r.wantMade("P10.7: ahead of the clash", mend(two[1]), refused(api.ErrUnwanted), "")
		r.choose(choice(api.Drop, 0))
		r.want("P10.5", fresh(h), refused(api.ErrNode))
		r.choose(choice(api.Crash, 0))
		r.wantMade("P10.7: by the cache, ahead of the device's error", mend(two[1]), refused(api.ErrClash), "")
		r.state("P10.7", list(h), list(h))
		r.choose()
		r.wantMade("P10.7: what the cache has", mend(two[0]), reply{}, "put ")
		r.state("P10.7", list(h), list())

		r = lay(t, 8, bits, 0) // without a cache nobody knows of a clash: either is as right
		r.do("P10.6", put(two[0]))
		r.choose(choice(api.Drop, 0))
		r.want("P10.5", fresh(h), refused(api.ErrNode))
		r.wantMade("P10.7", mend(two[1]), reply{}, "put ")
		r.want("P10.5", fresh(h), told(two[1]))
		if r.book.Sound() {
			t.Errorf("P10.10: a blob has become another one, and the book is sound")
		}
	}
}
