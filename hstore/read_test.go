package hstore_test

import (
	"strings"
	"testing"

	"cairn/api"
)

// readers are the two calls that read.
func readers() map[string]func(h api.Hash) op {
	return map[string]func(h api.Hash) op{"Node": node, "Fresh": fresh}
}

// blobOf tells a blob of n bytes that begins with s.
func blobOf(s string, n int) string { return s + strings.Repeat(".", n-len(s)) }

// How the device stands to a hash ahead of a reading.
var standings = []string{"nothing", "right", "wrong", "empty", "gone", "mended", "put twice"}

// stand brings the rig to that standing.
func (r *rig) stand(how, s string) {
	h := r.hash(s)
	switch how {
	case "right":
		r.raw(h, s)
	case "wrong":
		r.raw(h, s+"?")
	case "empty":
		r.raw(h, "")
	case "gone":
		r.raw(h, s)
		r.lose(h)
	case "mended":
		r.raw(h, "rubbish")
		r.raw(h, s)
	case "put twice":
		r.raw(h, s)
		r.raw(r.hash("another"), "another")
		r.raw(h, s)
	}
}

func TestReadingByEveryChoice(t *testing.T) {
	for name, reader := range readers() {
		for _, how := range standings {
			for kind := range api.Choices {
				for n := range 5 {
					for _, ahead := range []bool{false, true} {
						r := lay(t, 8, 256, 2)
						s := blobOf(how, 40)
						if ahead { // in the quarantine ahead of it
							r.want("P10.5", fresh(r.hash(s)), refused(api.ErrNode))
						}
						r.do("P10.6", put("bystander"))
						r.stand(how, s)
						r.choose(choice(kind, n))
						was := len(r.d.Accesses())
						got := r.do("P10.4, P10.5", reader(r.hash(s)))
						if n := len(r.d.Accesses()) - was; n != 1 {
							t.Fatalf("P10.12: %s makes %d accesses", name, n)
						}
						r.readEnds(got, s, kind, ahead, name == "Node")
						r.up()
						r.do("P10.5", fresh(r.hash(s)))
						r.do("P10.4", node(r.hash(s)))
						r.do("P10.4", node(r.hash("bystander")))
					}
				}
			}
		}
	}
}

// readEnds holds what a reading has learned against its answer, whatever the device has told.
func (r *rig) readEnds(got reply, s string, kind int, ahead, caches bool) {
	r.t.Helper()
	h, by := r.hash(s), r.hash("bystander")
	cached, bad := list(by), list()
	switch {
	case kind == api.Torn || kind == api.Crash || kind == api.After:
		if got != refused(api.ErrDown) {
			r.t.Fatalf("P10.5: down: %v, behind %s", got, r.tale())
		}
		if ahead {
			bad = list(h)
		}
	case got == told(s):
		if caches {
			cached = list(by, h)
		}
	case got == refused(api.ErrNode):
		bad = list(h)
	default:
		r.t.Fatalf("P10.5: %v, behind %s", got, r.tale())
	}
	r.state("P10.4, P10.5", cached, bad)
}

func TestReadingOfADeviceThatIsDown(t *testing.T) {
	for name, reader := range readers() {
		for _, how := range standings {
			r := lay(t, 8, 256, 2)
			s := "of a device that is down"
			r.want("P10.5", fresh(r.hash("lost")), refused(api.ErrNode))
			r.stand(how, s)
			r.choose(choice(api.Crash, 0), choice(api.Drop, 0))
			r.want("P10.5", fresh(r.hash("lost")), refused(api.ErrDown))
			was := len(r.d.Accesses())
			r.want("P10.5", reader(r.hash(s)), refused(api.ErrDown))
			if len(r.d.Accesses()) != was {
				t.Errorf("P8.3: %s of a device that is down is noted", name)
			}
			r.state("P10.5: nothing is learned", list(), list(r.hash("lost")))
		}
	}
}

func TestReadingFromTheCacheAsksNobody(t *testing.T) {
	r := lay(t, 8, 256, 2)
	x := r.hash("x")
	r.do("P10.6", put("x"))
	r.choose(choice(api.Crash, 0))
	r.want("P10.4", node(x), told("x"))
	if r.d.Down() || len(r.d.Accesses()) != 2 {
		t.Errorf("P10.4: an access for what is in the cache: %v", r.d.Accesses())
	}
	r.want("P10.5", fresh(x), refused(api.ErrDown))
	r.want("P10.4: the device is down", node(x), told("x"))
	r.up()
	r.raw(x, "altered")
	r.want("P10.5: the cache is not asked", fresh(x), refused(api.ErrNode))
	r.state("P10.5: the cache is not changed", list(x), list(x))
	r.want("P10.4: from the cache all the same", node(x), told("x"))
	r.state("P10.4: the quarantine is as it was", list(x), list(x))
	r.raw(x, "x")
	r.want("P10.5", fresh(x), told("x"))
	r.state("P10.5", list(x), list())
}

func TestFreshBringsNothingIntoTheCache(t *testing.T) {
	for _, size := range []int{0, 1, 2, 256} {
		r := lay(t, 8, 256, size)
		r.raw(r.hash("x"), "x")
		for range 3 {
			r.want("P10.5", fresh(r.hash("x")), told("x"))
			r.state("P10.5", list(), list())
		}
		if n := len(r.d.Accesses()); n != 4 {
			t.Errorf("P10.12: %d accesses", n)
		}
	}
}

func TestWrongBytesLeaveTheCacheAlone(t *testing.T) {
	r := lay(t, 8, 256, 2)
	r.raw(r.hash("x"), "y") // right for another hash
	r.want("P10.4", node(r.hash("x")), refused(api.ErrNode))
	r.state("P10.4", list(), list(r.hash("x")))
	r.want("P10.4: it is read anew", node(r.hash("x")), refused(api.ErrNode))
	r.raw(r.hash("x"), "x")
	r.want("P10.4", node(r.hash("x")), told("x"))
	r.state("P10.4", list(r.hash("x")), list())
}

func TestWhichGoesOutOfTheCache(t *testing.T) {
	for _, size := range []int{0, 1, 2, 3} {
		r := lay(t, 16, 256, size)
		all := []string{"a", "b", "c", "d", "e"}
		var hs []api.Hash
		for _, s := range all {
			hs = append(hs, r.hash(s))
			r.do("P10.6", put(s))
			r.state("P10.3", list(hs[max(0, len(hs)-size):]...), list())
		}
		for _, s := range all[5-size:] { // none of them grows younger
			for _, o := range []op{node(r.hash(s)), fresh(r.hash(s)), put(s), node(r.hash(s))} {
				r.do("P10.3", o)
				r.state("P10.3: reading and putting make none younger", list(hs[5-size:]...), list())
			}
		}
	}
}

func TestWhatIsReadComesAsTheYoungest(t *testing.T) {
	for _, size := range []int{0, 1, 2} {
		r := lay(t, 16, 256, size)
		var hs []api.Hash
		for _, s := range []string{"a", "b", "c", "d", "e"} {
			r.raw(r.hash(s), s)
			hs = append(hs, r.hash(s))
			r.want("P10.4", node(r.hash(s)), told(s))
			r.state("P10.3", list(hs[max(0, len(hs)-size):]...), list())
		}
		r.want("P10.4", node(hs[0]), told("a")) // it had gone, and comes again
		hs = append(hs, hs[0])
		r.state("P10.3", list(hs[len(hs)-size:]...), list())
	}
}

func TestTheGreatestCache(t *testing.T) {
	r := lay(t, 400, 256, 256)
	var hs []api.Hash
	for i := range 300 {
		s := blobOf("number ", 8+i)
		hs = append(hs, r.hash(s))
		r.do("P10.6", put(s))
	}
	r.state("P10.3", list(hs[44:]...), list())
	was := len(r.d.Accesses())
	for _, h := range hs[44:] {
		r.do("P10.4", node(h))
	}
	if len(r.d.Accesses()) != was {
		t.Errorf("P10.4: accesses for what is in the cache")
	}
	r.do("P10.4", node(hs[43]))
	if len(r.d.Accesses()) != was+1 {
		t.Errorf("P10.4: no access for what has left the cache")
	}
	r.state("P10.3", list(append(hs[45:300:300], hs[43])...), list())
}

func TestACacheOfNone(t *testing.T) {
	r := lay(t, 8, 256, 0)
	for _, c := range []struct {
		o    op
		made string
	}{{put("x"), "get put "}, {node(r.hash("x")), "get "}, {node(r.hash("x")), "get "}, {put("x"), "get "}} {
		if got := r.made(func() { r.do("P10.3", c.o) }); got != c.made {
			t.Errorf("P10.3: %v makes the accesses %q, not %q", c.o, got, c.made)
		}
		r.state("P10.3: with cache 0 nothing is kept", list(), list())
	}
}
