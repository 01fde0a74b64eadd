package hstore_test

import (
	"bytes"
	"fmt"
	"maps"
	"math/rand"
	"slices"
	"sync"
	"testing"

	"cairn/api"
	"cairn/digest"
	"cairn/hstore"
	"cairn/media"
)

// roomy tells a copy of bytes whose spare room is filled with marks.
func roomy(s string) []byte {
	return append([]byte(s), 7, 201, 0, 32, 255, 16, 9, 204)[:len(s)]
}

// whole tells a copy of a list, spare room too.
func whole[T any](l []T) []T {
	return append([]T{}, l[:cap(l)]...)
}

// fill writes one thing all over a list and its spare room.
func fill[T any](l []T, x T) {
	l = l[:cap(l)]
	for i := range l {
		l[i] = x
	}
}

// filledWith is whether a list and its spare room are that thing all over.
func filledWith[T comparable](l []T, x T) bool {
	return !slices.ContainsFunc(l[:cap(l)], func(y T) bool { return y != x })
}

// shared writes a mark of its own into each list, spare room too, and tells whether one of them has lost its mark.
func shared(all [][]byte) bool {
	for i, b := range all {
		fill(b, byte(i))
	}
	for i, b := range all {
		if !filledWith(b, byte(i)) {
			return true
		}
	}
	return false
}

// handIn hands bytes to Put or to Mend, looks whether they are as they were, and spoils them then.
func (r *rig) handIn(call int, s string) reply {
	r.t.Helper()
	data := roomy(s)
	was := whole(data)
	var got reply
	if call == callPut {
		got.hash, got.e = r.stores[0].Put(data)
	} else {
		got.e = r.stores[0].Mend(data)
	}
	if want := r.models[0].do(op{call: call, blob: s}); got != want {
		r.t.Errorf("P10.6, P10.7: %v, not %v", got, want)
	}
	if !bytes.Equal(whole(data), was) {
		r.t.Errorf("R3: what was handed in is changed")
	}
	fill(data, 99)
	r.look("R3")
	return got
}

// handAll hands in all these, and holds each answer's error against the one beside it.
func (r *rig) handAll(call int, all map[string]api.Errno) {
	r.t.Helper()
	for _, s := range slices.Sorted(maps.Keys(all)) {
		if got := r.handIn(call, s); got.e != all[s] {
			r.t.Errorf("P10.6, P10.7: %q: %v, not %d", s, got, all[s])
		}
	}
}

func TestWhatIsHandedInStaysAndIsNotKept(t *testing.T) {
	for _, size := range []int{0, 1, 3} {
		r := lay(t, 3, 256, size)
		x, y := r.hash("xxx"), r.hash("yyy")
		r.handAll(callPut, map[string]api.Errno{"xxx": api.OK})
		r.handAll(callPut, map[string]api.Errno{"xxx": api.OK}) // there already
		r.want("R3", node(x), told("xxx"))
		r.want("R3", fresh(x), told("xxx"))
		r.want("P10.5", fresh(y), refused(api.ErrNode))
		r.handAll(callMend, map[string]api.Errno{"yyy": api.OK, "xxx": api.ErrUnwanted, "": api.ErrInput})
		r.want("R3", node(y), told("yyy"))
		r.raw(x, "wrong")
		r.handAll(callPut, map[string]api.Errno{"xxx": api.OK, "yyy": api.OK, "zz": api.OK, "zzz: no slot": api.ErrFull, "": api.ErrInput})
		for kind := range api.Choices {
			for n := range 4 {
				r.choose(choice(kind, n), choice(kind, n))
				r.handIn(callPut, "zz")
				r.up()
				r.choose(choice(api.Drop, 0), choice(kind, n))
				r.do("P10.5", fresh(x))
				r.handIn(callMend, "xxx")
				r.up()
			}
		}
		if clashes := r.book.Clashes(); len(clashes) != 0 || !r.book.Sound() {
			t.Errorf("R3: the book is not sound: %v", clashes)
		}
		r.choose()
		for _, s := range []string{"xxx", "yyy", "zz"} {
			r.do("P10.6", put(s))
			r.want("R3", node(r.hash(s)), told(s))
			r.want("R3", fresh(r.hash(s)), told(s))
		}
	}
}

func TestHashesHandedToForget(t *testing.T) {
	r, cached, bad, twice := filled(t)
	hs := []api.Hash{cached, bad, twice, r.hash("one"), {3}}
	was := whole(hs)
	r.stores[0].Forget(hs[:2]...)
	r.models[0].forget(slices.Clone(hs[:2]))
	if !slices.Equal(whole(hs), was) {
		t.Errorf("R3: Forget has changed what it was handed")
	}
	fill(hs, api.Hash{9})
	r.look("R3")
	r.do("R3", put("four"))
	r.do("R3", node(cached))
}

// handed is all that a store hands out in one round of calls.
type handed struct {
	bytes  [][]byte
	hashes [][]api.Hash
}

func (r *rig) handOut(hs []api.Hash) handed {
	s := r.stores[0]
	var out handed
	for _, h := range hs {
		a, _ := s.Node(h)
		b, _ := s.Fresh(h)
		c, _ := s.Node(h)
		out.bytes = append(out.bytes, a, b, c)
		r.models[0].node(h)
		r.models[0].fresh(h)
		r.models[0].node(h)
	}
	out.hashes = append(out.hashes, s.Cached(), s.Quarantine(), s.Cached(), s.Quarantine())
	return out
}

func TestWhatIsHandedOutIsNew(t *testing.T) {
	for _, size := range []int{0, 1, 2, 8} {
		r := lay(t, 8, 256, size)
		var hs []api.Hash
		for _, s := range []string{"xxx", "yyy", "zzz", "gone"} {
			hs = append(hs, r.hash(s))
			r.do("P10.6", put(s))
		}
		r.lose(r.hash("gone"))
		r.do("P10.5", fresh(hs[3]))
		r.do("P10.5", fresh(r.hash("lost")))
		first, second := r.handOut(hs), r.handOut(hs)
		if shared(append(first.bytes, second.bytes...)) {
			t.Errorf("R3: with a cache of %d two answers share memory", size)
		}
		all := append(first.hashes, second.hashes...)
		for i, l := range all {
			fill(l, api.Hash{byte(i), 77})
		}
		for i, l := range all {
			if !filledWith(l, api.Hash{byte(i), 77}) {
				t.Errorf("R3: two lists of hashes share memory")
			}
		}
		r.look("R3")
		for _, s := range []string{"xxx", "yyy", "zzz"} {
			r.want("R3: what the cache keeps", node(r.hash(s)), told(s))
			r.want("R3: what the device keeps", fresh(r.hash(s)), told(s))
		}
		for _, s := range []string{"a", "b", "c"} { // the order is the store's own
			r.do("R3", put(s))
		}
		r.do("R3", forget(r.hash("b")))
		r.look("R3")
		if !r.book.Sound() {
			t.Errorf("R3: the book is not sound")
		}
	}
}

// What was handed out stays as it was, whatever the store does then.
func TestWhatWasHandedOutStays(t *testing.T) {
	r, cached, bad, twice := filled(t)
	s := r.stores[0]
	blob, _ := s.Node(cached)
	again, _ := s.Fresh(twice)
	r.models[0].fresh(twice)
	order, waits := s.Cached(), s.Quarantine()
	wasOrder, wasWaits := whole(order), whole(waits)
	r.do("P10.8", forget(cached, r.hash("one")))
	r.raw(cached, "altered")
	for _, x := range []string{"a", "b", "c", "lost"} {
		r.do("P10.6", put(x))
	}
	r.do("P10.4", node(cached))
	r.do("P10.4", node(bad))
	r.do("P10.8", forget())
	if string(blob) != "two" || string(again) != "both" || !slices.Equal(whole(order), wasOrder) || !slices.Equal(whole(waits), wasWaits) {
		t.Errorf("R3: %q, %q, %x, %x", blob, again, order, waits)
	}
}

func TestNilAndEmptyAreOne(t *testing.T) {
	for _, none := range [][]byte{nil, {}, make([]byte, 0, 9)} {
		r := lay(t, 4, 256, 2)
		if h, e := r.stores[0].Put(none); h != (api.Hash{}) || e != api.ErrInput {
			t.Errorf("R4: Put: %x, %d", h, e)
		}
		if e := r.stores[0].Mend(none); e != api.ErrInput {
			t.Errorf("R4: Mend: %d", e)
		}
	}
}

// With an error all else is zero.
func TestZeroBesideAnError(t *testing.T) {
	r := lay(t, 1, 256, 1)
	r.raw(r.hash("x"), "wrong")
	for _, choices := range [][]api.Choice{nil, {choice(api.Crash, 0)}, {choice(api.After, 0)}, {choice(api.Alter, 0)}} {
		for _, reader := range []func(api.Hash) ([]byte, api.Errno){r.stores[0].Node, r.stores[0].Fresh} {
			r.d.Up()
			r.d.Choose(choices...)
			if b, e := reader(r.hash("x")); len(b) != 0 || e == api.OK {
				t.Errorf("R2: %q beside %d", b, e)
			}
		}
	}
	r.d.Up()
	if h, e := r.stores[0].Put([]byte("y")); h != (api.Hash{}) || e != api.ErrFull {
		t.Errorf("R2: %x beside %d", h, e)
	}
}

// What a store answers hangs on what was done to it, to its device and to its book alone.
func TestSideBySide(t *testing.T) {
	said := make([]string, 8)
	var all sync.WaitGroup
	for i := range said {
		all.Go(func() {
			d, _ := media.New(5, 5)
			book, _ := digest.New(12, 256, make([]byte, 32))
			s, _ := hstore.New(d, book, 3)
			rnd := rand.New(rand.NewSource(7))
			r := &rig{bits: 12}
			for range 300 {
				if rnd.Intn(3) == 0 {
					d.Choose(someChoice(rnd), someChoice(rnd))
				}
				said[i] += fmt.Sprint(ask(s, r.someOp(rnd, someBlobs())), s.Cached(), s.Quarantine())
				d.Up()
			}
			said[i] += fmt.Sprint(d.Media(), d.Accesses(), book.Clashes())
		})
	}
	all.Wait()
	for i := range said {
		if said[i] != said[0] {
			t.Fatalf("R5: two stores that were done the same to answer otherwise")
		}
	}
}
