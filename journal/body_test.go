package journal_test

import (
	"bytes"
	"math"
	"math/rand"
	"slices"
	"testing"

	"cairn/api"
	"cairn/journal"
	"cairn/rlp"
)

// wrongRecords tells records that may not be, each by one thing alone.
func wrongRecords() []api.Record {
	var out []api.Record
	for _, kind := range []int{0, 3, 4, -1, -2, 255, 256, 257, 258, 1 << 31, 1<<32 + 1, 1<<32 + 2, math.MaxInt, math.MinInt} {
		out = append(out, api.Record{Kind: kind, Count: 1}, api.Record{Kind: kind, Count: 1, Seq: 1}, api.Record{Kind: kind, Count: 1, Seq: 1, Changes: []api.Change{put("k", "v")}})
	}
	for _, count := range []int64{0, -1, -2, greatestCount + 1, greatestCount + 2, 1 << 41, 1 << 62, math.MaxInt64, math.MinInt64} {
		out = append(out, opened(count, 0), opened(count, 1), opened(count, count), committed(count, 1), committed(count, count))
	}
	for _, count := range []int64{1, 2, 300, greatestCount} {
		for _, seq := range []int64{-1, -2, math.MinInt64, count + 1, count + 2, math.MaxInt64} {
			out = append(out, opened(count, seq), committed(count, seq), committed(count, seq, put("k", "v")))
		}
		out = append(out, committed(count, 0), committed(count, 0, gone("k")))
	}
	for _, changes := range [][]api.Change{{put("k", "v")}, {gone("k")}, {gone("")}, {put("", "v"), gone("")}, fullBatch()} {
		r := opened(9, 1)
		r.Changes = changes
		out = append(out, r)
	}
	for _, n := range []int{greatestBatch + 1, greatestBatch + 2, 100, 2000} {
		out = append(out, committed(9, 1, slices.Repeat([]api.Change{gone("k")}, n)...), committed(9, 1, slices.Repeat([]api.Change{put("", "v")}, n)...))
	}
	for _, c := range wrongChanges() {
		for n := range greatestBatch {
			if n > 3 && n < 30 && n != 16 {
				continue
			}
			around := slices.Repeat([]api.Change{put("k", "v")}, n)
			for at := range n + 1 {
				out = append(out, committed(9, 1, slices.Insert(slices.Clone(around), at, c)...))
			}
		}
	}
	return out
}

// wrongChanges tells changes that may not be.
func wrongChanges() []api.Change {
	return []api.Change{
		put("k", ""), put("", ""), put(sized(32), ""),
		put("k", sized(257)), put("", sized(258)), put("k", sized(10000)),
		put(sized(33), "v"), put(sized(34), "v"), put(sized(1000), sized(256)), put(sized(33), ""), put(sized(33), sized(257)),
		gone(sized(33)), gone(sized(1000)),
		{Key: []byte("k"), Value: []byte("v"), Gone: true}, {Value: []byte{0}, Gone: true}, {Key: []byte(sized(32)), Value: []byte(sized(256)), Gone: true}, {Key: []byte("k"), Value: []byte(sized(257)), Gone: true}, {Key: []byte(sized(33)), Value: []byte("v"), Gone: true},
	}
}

// byRlp tells what rlp answers for the six items of a record.
func byRlp(t *testing.T, r api.Record) string {
	t.Helper()
	n := func(n int64) rlp.Item {
		x, e := rlp.Number(n)
		if e != api.OK {
			t.Fatalf("5.5: Number(%d): %d", n, e)
		}
		return x
	}
	changes := rlp.Item{List: true}
	for _, c := range r.Changes {
		x := rlp.Item{List: true, Items: []rlp.Item{{Bytes: c.Key}, {Bytes: c.Value}}}
		if c.Gone {
			x.Items = x.Items[:1]
		}
		changes.Items = append(changes.Items, x)
	}
	b, e := rlp.Encode(rlp.Item{List: true, Items: []rlp.Item{n(int64(r.Kind)), n(r.Count), n(r.Seq), {Bytes: r.Prev[:]}, {Bytes: r.Root[:]}, changes}})
	if e != api.OK {
		t.Fatalf("5.2: Encode: %d", e)
	}
	return string(b)
}

func TestBodiesOfRecordsThatMayBe(t *testing.T) {
	for _, r := range samples() {
		if !wantMayBe(r) {
			t.Fatalf("a sample may not be: %s", show(r))
		}
		b := asksBody(t, r)
		if b != byRlp(t, r) {
			t.Errorf("P19.2: Body(%.300s) = %s, not what rlp answers", show(r), brief(b))
		}
		if len(b) == 0 || len(b) > greatestRecord-32 {
			t.Errorf("P19.2: Body(%.300s) has %d bytes", show(r), len(b))
		}
	}
}

func TestBodiesOfRecordsThatMayNotBe(t *testing.T) {
	for _, r := range wrongRecords() {
		if wantMayBe(r) {
			t.Fatalf("a wrong record may be: %s", show(r))
		}
		if b := asksBody(t, r); b != "" {
			t.Errorf("P19.1: Body(%.300s) = %s", show(r), brief(b))
		}
	}
}

// Each number at its edges with each of the others, of each kind, with changes and without.
func TestNumbersAtTheirEdges(t *testing.T) {
	edges := []int64{math.MinInt64, -greatestCount, -1, 0, 1, 2, 3, 127, 128, greatestCount - 1, greatestCount, greatestCount + 1, math.MaxInt64 - 1, math.MaxInt64}
	right := 0
	for _, count := range edges {
		for _, seq := range edges {
			for kind := -1; kind <= 4; kind++ {
				for _, changes := range [][]api.Change{nil, {gone("k")}, {put("k", "v")}} {
					if asksBody(t, api.Record{Kind: kind, Count: count, Seq: seq, Changes: changes}) != "" {
						right++
					}
				}
			}
		}
	}
	if right < 50 {
		t.Errorf("only %d of the records may be", right)
	}
}

// Each length of a key with each length of a value, Gone and not.
func TestChangesOfAllLengths(t *testing.T) {
	for key := range 36 {
		for _, value := range []int{0, 1, 2, 54, 55, 56, 57, 127, 128, 254, 255, 256, 257, 258, 512} {
			for _, isGone := range []bool{false, true} {
				c := api.Change{Key: []byte(sized(key)), Value: []byte(sized(value)), Gone: isGone}
				b := asksBody(t, committed(4, 4, c))
				may := key <= 32 && (isGone && value == 0 || !isGone && value >= 1 && value <= 256)
				if (b != "") != may {
					t.Errorf("P19.1: a key of %d bytes, a value of %d, Gone %v: %s", key, value, isGone, brief(b))
				}
			}
		}
	}
	for value := range 260 {
		asksBody(t, committed(4, 4, put("k", sized(value))))
		asksBody(t, committed(4, 4, gone("k"), put(sized(32), sized(value)), gone("")))
	}
}

// So many changes, alike and not.
func TestBatchesOfAllLengths(t *testing.T) {
	edges := edgeChanges()
	for n := range 40 {
		one := asksBody(t, committed(40, 40, slices.Repeat([]api.Change{gone("k")}, n)...))
		two := asksBody(t, committed(40, 40, edges[:n]...))
		if may := n <= 32; (one != "") != may || (two != "") != may {
			t.Errorf("P19.1: %d changes: %s, %s", n, brief(one), brief(two))
		}
	}
}

// A key may come twice, with one value or with several, gone and put.
func TestKeysThatComeTwice(t *testing.T) {
	for _, changes := range [][]api.Change{
		{put("k", "v"), put("k", "v")}, {put("k", "v"), put("k", "w")}, {gone("k"), gone("k")}, {put("k", "v"), gone("k")}, {gone("k"), put("k", "v")},
		{gone(""), gone(""), gone("")}, slices.Repeat([]api.Change{put("k", "v"), gone("k")}, 16),
	} {
		if asksBody(t, committed(4, 1, changes...)) == "" {
			t.Errorf("P19.1: %v may not be", changes)
		}
	}
}

// The changes stand in their order.
func TestOrderOfChanges(t *testing.T) {
	changes := []api.Change{put("b", "1"), gone("a"), put("c", "2"), put("", "3")}
	seen := map[string]bool{}
	for i := range changes {
		for k := range changes {
			l := slices.Clone(changes)
			l[i], l[k] = l[k], l[i]
			seen[asksBody(t, committed(4, 1, l...))] = true
		}
	}
	if len(seen) != 7 {
		t.Errorf("P19.2: 7 orders of four changes have %d bodies", len(seen))
	}
}

func TestLongestBody(t *testing.T) {
	b := asksBody(t, longest())
	if len(b) != 9527 {
		t.Errorf("P19.2: the longest body has %d bytes", len(b))
	}
	for _, r := range samples() {
		if got, _ := wantBody(r); len(got) > len(b) {
			t.Errorf("P19.2: %.200s has a body of %d bytes", show(r), len(got))
		}
	}
	s := newShelf(t, 256)
	whole, _ := s.write(longest())
	s.reads("the longest body", whole[7:], longest())
	s.scans("the longest body", whole+whole, []string{whole, whole}, api.OK)
}

// Each byte of Prev and of Root stands where it should.
func TestHashesInBodies(t *testing.T) {
	base := opened(300, 2)
	for i := range 32 {
		for _, x := range []byte{0, 1, 127, 128, 192, 255} {
			r := base
			r.Prev[i] = x
			asksBody(t, r)
			r = base
			r.Root[i] = x
			asksBody(t, r)
		}
	}
	one, two := asksBody(t, api.Record{Kind: 1, Count: 1, Prev: hashed("x")}), asksBody(t, api.Record{Kind: 1, Count: 1, Root: hashed("x")})
	if one == two {
		t.Errorf("P19.2: Prev and Root have changed places")
	}
}

func TestBodiesOfAnyRecords(t *testing.T) {
	rnd := rand.New(rand.NewSource(19))
	for range 3000 {
		r := anyRecord(rnd)
		switch rnd.Intn(8) {
		case 0:
			r.Kind = rnd.Intn(5) - 1
		case 1:
			r.Count = rnd.Int63() - rnd.Int63()
		case 2:
			r.Seq += int64(rnd.Intn(5) - 2)
		case 3:
			if len(r.Changes) > 0 {
				r.Changes[rnd.Intn(len(r.Changes))] = wrongChanges()[rnd.Intn(len(wrongChanges()))]
			}
		}
		if b := asksBody(t, r); b != "" && b != byRlp(t, r) {
			t.Errorf("P19.2: Body(%.300s) = %s", show(r), brief(b))
		}
	}
}

// R4: changes that are nil, and keys and values that are, are as those without elements.
func TestNilAndEmptyAreOne(t *testing.T) {
	for _, pair := range [][2]api.Record{
		{{Kind: 1, Count: 1}, {Kind: 1, Count: 1, Changes: []api.Change{}}},
		{{Kind: 2, Count: 1, Seq: 1}, {Kind: 2, Count: 1, Seq: 1, Changes: []api.Change{}}},
		{committed(1, 1, api.Change{Gone: true}), committed(1, 1, api.Change{Key: []byte{}, Value: []byte{}, Gone: true})},
		{committed(1, 1, api.Change{Value: []byte{1}}), committed(1, 1, api.Change{Key: []byte{}, Value: []byte{1}})},
		{committed(1, 1, api.Change{}), committed(1, 1, api.Change{Key: []byte{}, Value: []byte{}})},
	} {
		a, e := journal.Body(pair[0])
		b, f := journal.Body(pair[1])
		if !bytes.Equal(a, b) || e != f {
			t.Errorf("R4: %x, %d and %x, %d", a, e, b, f)
		}
	}
}
