package journal_test

import (
	"math"
	"math/rand"
	"testing"

	"cairn/api"
	"cairn/journal"
)

// next tells the record of a kind that follows a head.
func next(kind int, h api.Head) api.Record {
	r := api.Record{Kind: kind, Count: h.Count + 1, Seq: h.Seq, Prev: h.Tag, Root: h.Root}
	if kind == api.Committed {
		r.Seq++
	}
	return r
}

// behind tells the head behind a record.
func behind(r api.Record, tag api.Hash) api.Head {
	return api.Head{Count: r.Count, Seq: r.Seq, Tag: tag, Root: r.Root}
}

func TestEachFieldTurned(t *testing.T) {
	h := api.Head{Count: 4, Seq: 2, Tag: hashed(sized(32)), Root: hashed("root")}
	for _, kind := range []int{api.Opened, api.Committed} {
		right := next(kind, h)
		if !asksFollows(t, h, right) {
			t.Errorf("P19.6: kind %d: %s does not follow", kind, show(right))
		}
		for d := int64(-9); d <= 9; d++ {
			r := right
			r.Count += d
			if asksFollows(t, h, r) != (d == 0) {
				t.Errorf("P19.6: kind %d: a Count %d more", kind, d)
			}
			r = right
			r.Seq += d
			if asksFollows(t, h, r) != (d == 0) {
				t.Errorf("P19.6: kind %d: a Seq %d more", kind, d)
			}
		}
		for k := range 256 {
			r := right
			r.Prev[k/8] ^= 128 >> (k % 8)
			if asksFollows(t, h, r) {
				t.Errorf("P19.6: kind %d: bit %d of Prev turned", kind, k)
			}
			r = right
			r.Root[k/8] ^= 128 >> (k % 8)
			if asksFollows(t, h, r) != (kind == api.Committed) {
				t.Errorf("P19.6: kind %d: bit %d of Root turned", kind, k)
			}
			other := h
			other.Tag[k/8] ^= 128 >> (k % 8)
			if asksFollows(t, other, right) {
				t.Errorf("P19.6: kind %d: bit %d of Tag turned", kind, k)
			}
			other = h
			other.Root[k/8] ^= 128 >> (k % 8)
			if asksFollows(t, other, right) != (kind == api.Committed) {
				t.Errorf("P19.6: kind %d: bit %d of the head's Root turned", kind, k)
			}
		}
		for _, other := range []int{0, 1, 2, 3, 4, -1, -2, 255, 257, 258, 1<<32 + 1, 1<<32 + 2, math.MaxInt, math.MinInt} {
			r := right
			r.Kind = other
			if asksFollows(t, h, r) != (other == kind) {
				t.Errorf("P19.6: of kind %d, as kind %d", kind, other)
			}
		}
	}
}

// A commit may leave the root as it is.
func TestCommitsThatLeaveTheRoot(t *testing.T) {
	h := api.Head{Count: 1, Root: hashed("root")}
	if !asksFollows(t, h, next(api.Committed, h)) {
		t.Errorf("P19.6: a commit with the head's root")
	}
}

// Prev and Root may not change places, nor may Count and Seq.
func TestFieldsInTheirPlaces(t *testing.T) {
	h := api.Head{Count: 4, Seq: 9, Tag: hashed("t"), Root: hashed("q")}
	for _, kind := range []int{api.Opened, api.Committed} {
		r := next(kind, h)
		r.Prev, r.Root = r.Root, r.Prev
		if asksFollows(t, h, r) {
			t.Errorf("P19.6: kind %d: Prev and Root in each other's place", kind)
		}
		r = next(kind, h)
		r.Count, r.Seq = r.Seq, r.Count
		if asksFollows(t, h, r) {
			t.Errorf("P19.6: kind %d: Count and Seq in each other's place", kind)
		}
	}
}

// Counts and batches at their limits, and round the end of what numbers are.
func TestFollowsAtTheEdges(t *testing.T) {
	edges := []int64{math.MinInt64, math.MinInt64 + 1, math.MinInt64 + 2, -2, -1, 0, 1, 2, greatestCount - 1, greatestCount, greatestCount + 1, math.MaxInt64 - 2, math.MaxInt64 - 1, math.MaxInt64}
	for _, from := range edges {
		for _, to := range edges {
			for kind := range 4 {
				asksFollows(t, api.Head{Count: from, Seq: 7}, api.Record{Kind: kind, Count: to, Seq: 7})
				asksFollows(t, api.Head{Count: from, Seq: 7}, api.Record{Kind: kind, Count: to, Seq: 8})
				asksFollows(t, api.Head{Count: 7, Seq: from}, api.Record{Kind: kind, Count: 8, Seq: to})
				asksFollows(t, api.Head{Count: from, Seq: from}, api.Record{Kind: kind, Count: to, Seq: to})
			}
		}
	}
	for _, kind := range []int{api.Opened, api.Committed} {
		if journal.Follows(api.Head{Count: math.MaxInt64}, api.Record{Kind: kind, Count: math.MinInt64}) {
			t.Errorf("P19.6: a Count round the end")
		}
	}
	if journal.Follows(api.Head{Count: 1, Seq: math.MaxInt64}, api.Record{Kind: api.Committed, Count: 2, Seq: math.MinInt64}) {
		t.Errorf("P19.6: a Seq round the end")
	}
	if !journal.Follows(api.Head{Count: math.MaxInt64 - 1, Seq: math.MaxInt64}, api.Record{Kind: api.Opened, Count: math.MaxInt64, Seq: math.MaxInt64}) {
		t.Errorf("P19.6: the greatest numbers")
	}
	if !journal.Follows(api.Head{Count: math.MinInt64, Seq: math.MinInt64}, api.Record{Kind: api.Committed, Count: math.MinInt64 + 1, Seq: math.MinInt64 + 1}) {
		t.Errorf("P19.6: the least numbers")
	}
}

// The changes of a record are not looked at, nor whether it may be.
func TestFollowsLooksAtNothingElse(t *testing.T) {
	h := api.Head{Count: 4, Seq: 2, Tag: hashed("t"), Root: hashed("q")}
	for _, changes := range [][]api.Change{nil, {gone("k")}, {put("k", "")}, wrongChanges(), append(fullBatch(), fullBatch()...)} {
		for _, kind := range []int{api.Opened, api.Committed} {
			r := next(kind, h)
			r.Changes = changes
			if !asksFollows(t, h, r) {
				t.Errorf("P19.6: kind %d with %d changes", kind, len(changes))
			}
		}
	}
	for _, far := range []api.Head{{Count: greatestCount, Seq: 3}, {Count: 4, Seq: 9}, {Count: -5, Seq: -7}, {Count: -1, Seq: -1}} {
		for _, kind := range []int{api.Opened, api.Committed} {
			if !asksFollows(t, far, next(kind, far)) {
				t.Errorf("P19.6: kind %d behind %v", kind, far)
			}
		}
	}
}

// A chain of records, each with the code of the one ahead of it: just the next one follows each head.
func TestChains(t *testing.T) {
	s := newShelf(t, 256)
	rnd := rand.New(rand.NewSource(7))
	var heads []api.Head
	var records []api.Record
	h := api.Head{Root: hashed("empty")}
	for range 40 {
		r := next(1+rnd.Intn(2), h)
		if r.Kind == api.Committed {
			r.Root = hashed(sized(rnd.Intn(30)))
			r.Changes = []api.Change{gone("k")}
		}
		_, tag := s.write(r)
		heads, records = append(heads, h), append(records, r)
		h = behind(r, tag)
	}
	for i, head := range heads {
		for k, r := range records {
			if asksFollows(t, head, r) != (i == k) {
				t.Errorf("P19.6: record %d behind head %d", k, i)
			}
		}
	}
}

func TestFollowsOfAnything(t *testing.T) {
	rnd := rand.New(rand.NewSource(77))
	follow := 0
	for range 20000 {
		some := func() int64 { return int64(rnd.Intn(3)) }
		h := api.Head{Count: some(), Seq: some(), Tag: hashed(sized(rnd.Intn(2))), Root: hashed(sized(rnd.Intn(2)))}
		r := api.Record{Kind: rnd.Intn(4), Count: some(), Seq: some(), Prev: hashed(sized(rnd.Intn(2))), Root: hashed(sized(rnd.Intn(2)))}
		if asksFollows(t, h, r) {
			follow++
		}
	}
	if follow < 100 {
		t.Errorf("only %d follow", follow)
	}
}
