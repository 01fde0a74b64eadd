package store_test

import (
	"math"
	"testing"

	"cairn/api"
	"cairn/digest"
	"cairn/journal"
	"cairn/media"
	"cairn/store"
)

// What is handed to Open is looked at in its order: a nil device or book ahead of the cache, the cache ahead of all accesses.
func TestOpenRefuses(t *testing.T) {
	r := roomy(t)
	for _, c := range []struct {
		d     *media.Device
		book  *digest.Book
		cache int
		want  api.Errno
	}{
		{nil, nil, 0, api.ErrHandle}, {nil, r.book, 0, api.ErrHandle}, {r.d, nil, 0, api.ErrHandle},
		{nil, r.book, -1, api.ErrHandle}, {r.d, nil, 257, api.ErrHandle}, {nil, nil, math.MinInt, api.ErrHandle},
		{r.d, r.book, -1, api.ErrCache}, {r.d, r.book, 257, api.ErrCache}, {r.d, r.book, math.MaxInt, api.ErrCache}, {r.d, r.book, math.MinInt, api.ErrCache},
	} {
		for _, down := range []bool{false, true} {
			if down {
				r.goesDown()
			}
			made := r.made(func() {
				if s, e := store.Open(c.d, c.book, c.cache); s != nil || e != c.want {
					t.Errorf("23.1: Open with a cache of %d: %v, %d, not %d", c.cache, s != nil, e, c.want)
				}
			})
			if made != "" {
				t.Errorf("23.1: a refused Open makes accesses: %s", made)
			}
			r.up()
		}
	}
	if _, coded := r.book.Len(); coded != 0 || r.d.Media().Reg.Count != 0 {
		t.Errorf("23.1: a refused Open has done something")
	}
}

// Each cache that may be.
func TestOpenCaches(t *testing.T) {
	for _, cache := range []int{0, 1, 2, 255, 256} {
		r := roomy(t)
		r.wantsOpen("23.1", cache, api.OK, "reg read append setreg")
		r.sets(0, planted()).does(0, commit())
		for range 2 {
			r.does(0, scan(all, 9))
		}
		if got := r.stores[0].Report().Cached; got != min(cache, 8) {
			t.Errorf("23.1: %d blobs in a cache of %d", got, cache)
		}
	}
}

// What a new store is, at an empty device, and at one that has a map.
func TestOpenNew(t *testing.T) {
	r := roomy(t)
	for i := range 3 {
		r.wantsOpen("23.1", 8, api.OK, "reg read append setreg")
		r.is("23.1: a new store", i, state{count: int64(i) + 1}, emptyRoot(256), false)
	}
	g := layGarden(t, 64, 60000, 8)
	g.does(0, scrubs(3), lays("k", "v"), deletes("\x21"))
	g.choose(honest(2, choice(api.Drop, 0))...)
	g.refuses("22.2", 0, scrubs(4097), api.ErrInput, "")
	g.does(0, scrubs(2))
	if x := g.stores[0].Report(); x.Staged != 2 || x.Cached != 8 || len(x.Quarantine) != 1 {
		t.Fatalf("23.11: %+v", x)
	}
	g.wantsOpen("23.1", 8, api.OK, "reg read append setreg")
	g.is("23.1: a new store at the same device", 1, state{count: 3, seq: 1}, g.hashes["top"], false)
	g.wants("23.1: without a pass", 1, scrubs(1), api.Pass{Seen: 1}, "reg get")
}

// Each error of an opening: there is no store then.
func TestOpenErrors(t *testing.T) {
	r := lay(t, 9, 110, 256, 256)
	r.wantsOpen("23.1: no room", 0, api.ErrFull, "reg read append-")
	r = lay(t, 9, 111, 256, 256)
	r.wantsOpen("23.1: just room", 0, api.OK, "reg read append setreg")
	r.goesDown()
	r.wantsOpen("23.1: down", 0, api.ErrDown, "")
	r.up()
	r.aside("the log is cut", func(d *media.Device) { d.Cut(110) })
	for range 2 {
		r.wantsOpen("23.1: the log does not hold what the register stands for", 0, api.ErrStale, "reg read")
	}
	r.is("23.1: the earlier store does not know of it", 0, state{count: 1}, emptyRoot(256), false)

	r = roomy(t)
	for at, accesses := range []string{"reg-", "reg read-", "reg read append-", "reg read append setreg-"} {
		for _, kind := range []int{api.Crash, api.After} {
			r = roomy(t).choose(honest(at, choice(kind, 0))...)
			r.wantsOpen("23.1: a crash", 0, api.ErrDown, accesses)
		}
	}
	// The record of the opening before, whose register was set behind the last crash, leads on.
	r.up()
	who := r.wantsOpen("23.1: up again", 0, api.OK, "reg read append setreg")
	r.is("23.1: up again", who, state{count: 2}, emptyRoot(256), false)
}

// greatestCount is the greatest counter.
const greatestCount = 1 << 40

// atCount makes a rig whose device has one record, of an opening, with this counter.
func atCount(t *testing.T, count, seq int64) *rig {
	t.Helper()
	r := roomy(t)
	x := api.Record{Kind: api.Opened, Count: count, Seq: seq, Prev: api.Hash{7}, Root: emptyRoot(256)}
	w, tag, e := journal.Write(r.book, x)
	if _, _, f := journal.Write(r.bk, x); e != api.OK || f != api.OK {
		t.Fatalf("P19.3: %d, %d", e, f)
	}
	r.load(api.Media{Slots: 64, Room: 60000, Log: w, Reg: api.Register{Count: count, Tag: tag}})
	r.truth.is(map[string]string{}, seq)
	return r
}

// At the end of the counter nothing is opened, and nothing committed; all else goes on.
func TestCounterAtItsEnd(t *testing.T) {
	r := atCount(t, greatestCount, 3)
	r.wantsOpen("23.1: at its end", 0, api.ErrCount, "reg read")

	r = atCount(t, greatestCount-2, 3)
	r.opens(8)
	r.does(0, lays("\x11", long))
	r.wants("23.8: the last one", 0, commit(), hashOf(256, leaf("11", long)), "reg get- put append setreg")
	r.does(0, lays("\x11", long+"!"))
	for _, accesses := range []string{"reg get- put", "reg get"} {
		r.refuses("23.8: the node is written, and then the record may not be", 0, commit(), api.ErrCount, accesses)
		r.is("23.14", 0, state{count: greatestCount, seq: 4, staged: 1, cached: 2}, hashOf(256, leaf("11", long)), false)
	}
	r.does(0, get("\x11"), get("\x12"), scan(all, 2), prove("\x11"), proveSpan(all), root(), history(), scrubs(1), sweeps(), abort())
	r.refuses("23.8: of no change too", 0, commit(), api.ErrCount, "reg")
	r.wantsOpen("23.1: at its end", 0, api.ErrCount, "reg read")
}

// Two stores share nothing but the device and the book: a batch, a cache, a quarantine, a pass are each one's own.
func TestTwoStoresOfOneBook(t *testing.T) {
	one, two := roomy(t), roomy(t)
	two.book, two.bk = one.book, one.bk
	for _, r := range []*rig{one, two} {
		r.opens(4)
	}
	// The twins' books are one too, so each rig alone can't count what was coded; the truth is each one's own.
	one.does(0, lays("\x11", long), lays("\x12", long+"1"))
	two.does(0, lays("\x12", long))
	if a, b := one.stores[0].Report().Staged, two.stores[0].Report().Staged; a != 2 || b != 1 {
		t.Errorf("R5: %d and %d changes", a, b)
	}
	one.does(0, commit())
	two.does(0, get("\x11"), commit(), get("\x11"), get("\x12"))
	one.does(0, get("\x11"), get("\x12"), scrubs(2))
	two.is("R5", 0, state{count: 2, seq: 1, cached: 1}, hashOf(256, leaf("12", long)), false)
	two.wants("R5", 0, scrubs(9), api.Pass{Seen: 1, Done: true}, "reg get")
}
