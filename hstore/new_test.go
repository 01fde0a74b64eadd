package hstore_test

import (
	"math"
	"slices"
	"strings"
	"testing"

	"cairn/api"
	"cairn/digest"
	"cairn/hstore"
	"cairn/media"
)

func TestErrorNumbers(t *testing.T) {
	got := []api.Errno{api.ErrHandle, api.ErrCache, api.ErrInput, api.ErrUnwanted, api.ErrClash, api.ErrDown, api.ErrFull, api.ErrNode}
	if want := []api.Errno{1, 100, 2, 220, 4, 3, 6, 5}; !slices.Equal(got, want) {
		t.Errorf("Errors: %v, not %v", got, want)
	}
	if api.MaxCache != 256 || api.MaxNode != 1024 {
		t.Errorf("Limits: %d, %d", api.MaxCache, api.MaxNode)
	}
}

func TestNew(t *testing.T) {
	d, _ := media.New(4, 4, choice(api.Crash, 0))
	b, _ := digest.New(256, 256, make([]byte, 32))
	for _, size := range []int{math.MinInt, -257, -1, 0, 1, 2, 255, 256, 257, 258, 512, math.MaxInt} {
		for _, c := range []struct {
			d *media.Device
			b *digest.Book
		}{{d, b}, {nil, b}, {d, nil}, {nil, nil}} {
			want := api.OK
			if c.d == nil || c.b == nil {
				want = api.ErrHandle
			} else if size < 0 || size > 256 {
				want = api.ErrCache
			}
			s, e := hstore.New(c.d, c.b, size)
			if e != want || (s != nil) != (want == api.OK) {
				t.Errorf("P10.1: New with a cache of %d: %d, not %d", size, e, want)
			}
			if len(s.Cached()) != 0 || len(s.Quarantine()) != 0 {
				t.Errorf("P10.1: a new store has %v and %v", s.Cached(), s.Quarantine())
			}
		}
	}
	if len(d.Accesses()) != 0 || d.Down() {
		t.Errorf("P10.1: New makes accesses: %v", d.Accesses())
	}
	if n, m := b.Len(); n != 0 || m != 0 {
		t.Errorf("P10.1: New hashes %d strings and codes %d", n, m)
	}
}

func TestNewOverADeviceThatIsDown(t *testing.T) {
	d, _ := media.New(4, 4, choice(api.Crash, 0))
	b, _ := digest.New(256, 256, make([]byte, 32))
	d.Read()
	s, e := hstore.New(d, b, 3)
	if s == nil || e != api.OK || len(d.Accesses()) != 1 || !d.Down() {
		t.Errorf("P10.1: %d", e)
	}
}

// lengths are those at and around the edges of what may be a blob.
func lengths() []int { return []int{0, 1, 2, 31, 32, 1023, 1024, 1025, 1026, 5000} }

func TestWhatABlobIs(t *testing.T) {
	for _, n := range lengths() {
		well := n >= 1 && n <= 1024
		s := strings.Repeat("q", n)
		r := lay(t, 4, 256, 2)
		want := refused(api.ErrInput)
		if well {
			want = wrote(r.hash(s))
		}
		r.want("P10.2, P10.6", put(s), want)
		hashed, _ := r.book.Len()
		if well != (hashed == 1) || !well && len(r.d.Accesses()) != 0 {
			t.Errorf("P10.2: Put of %d bytes: %d strings hashed, accesses %v", n, hashed, r.d.Accesses())
		}
		r = lay(t, 4, 256, 2)
		r.want("P10.7", fresh(r.hash(s)), refused(api.ErrNode))
		want = refused(api.ErrInput)
		if well {
			want = reply{}
		}
		r.want("P10.2, P10.7", mend(s), want)
		hashed, _ = r.book.Len()
		if well != (hashed == 1) || well != (len(r.stores[0].Quarantine()) == 0) || !well && len(r.d.Accesses()) != 1 {
			t.Errorf("P10.2: Mend of %d bytes: %d strings hashed, accesses %v", n, hashed, r.d.Accesses())
		}
	}
}

func TestAnEmptyBlobOfTheDeviceIsNoneAndIsNotHashed(t *testing.T) {
	r := lay(t, 4, 256, 2)
	h := r.hash("")
	r.raw(h, "")
	r.want("P10.2, P10.5", fresh(h), refused(api.ErrNode))
	r.want("P10.2, P10.4", node(h), refused(api.ErrNode))
	if n, _ := r.book.Len(); n != 0 {
		t.Errorf("P10.2: what is no blob is hashed")
	}
	r.state("P10.5", list(), list(h))
	r.raw(r.hash("x"), "")
	r.want("P10.6", put("x"), wrote(r.hash("x")))
	if n, _ := r.book.Len(); n != 1 {
		t.Errorf("P10.2: %d strings hashed, not one", n)
	}
	r.state("P10.6", list(r.hash("x")), list(h))
}

func TestWhatIsComparedIsHashed(t *testing.T) {
	r := lay(t, 4, 256, 0)
	hashed := func(n int, what string) {
		t.Helper()
		if got, coded := r.book.Len(); got != n || coded != 0 {
			t.Errorf("R7: %d strings hashed, not %d, and %d coded, by %s", got, n, coded, what)
		}
	}
	r.raw(r.hash("x"), "other")
	r.do("P10.5", fresh(r.hash("x")))
	hashed(1, "Fresh of what is not right")
	r.do("P10.6", put("x"))
	hashed(2, "Put")
	r.do("P10.4", node(r.hash("x")))
	hashed(2, "Node of what was put")
	r.do("P10.7", mend("y"))
	hashed(3, "Mend of what nobody waits for")
	r.raw(r.hash("z"), "z")
	r.do("P10.4", node(r.hash("z")))
	hashed(4, "Node of what was written past the store")
	r.do("P10.4", node(r.hash("nothing")))
	r.do("P10.6", put(""))
	r.do("P10.7", mend(""))
	r.do("P10.8", forget())
	hashed(4, "calls that have nothing to hash")
}

func TestNilStore(t *testing.T) {
	var s *hstore.Store
	for _, h := range []api.Hash{{}, {1}, hashOf(256, "x")} {
		for _, o := range []op{node(h), fresh(h), put(""), put("x"), put(strings.Repeat("x", 1025)), mend(""), mend("x"), mend(strings.Repeat("x", 1025))} {
			if got := ask(s, o); got != refused(api.ErrHandle) {
				t.Errorf("P10.9: %v of a nil Store answers %v", o, got)
			}
		}
		s.Forget(h)
		s.Forget(h, h)
	}
	s.Forget()
	if len(s.Quarantine()) != 0 || len(s.Cached()) != 0 {
		t.Errorf("P10.9: the lists of a nil Store: %v, %v", s.Quarantine(), s.Cached())
	}
}

func TestAStoreIsASource(t *testing.T) {
	r := lay(t, 4, 256, 1)
	r.do("P10.6", put("x"))
	var src api.Source = r.stores[0]
	if b, e := src.Node(r.hash("x")); string(b) != "x" || e != api.OK {
		t.Errorf("Words: a store as a source: %q, %d", b, e)
	}
}
