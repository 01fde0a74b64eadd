package audit_test

import (
	"fmt"
	"maps"
	"slices"
	"strings"
	"testing"

	"cairn/api"
	"cairn/shape"
)

// notMaps tells lists that are no map's entries.
func notMaps() map[string][]api.Entry {
	entry := func(key, value string) api.Entry { return api.Entry{Key: []byte(key), Value: []byte(value)} }
	right := entry("a", "1")
	return map[string][]api.Entry{
		"falling":                  {entry("b", "1"), right},
		"one key twice":            {right, entry("a", "2")},
		"one entry twice":          {right, right},
		"one key thrice":           {right, entry("b", "2"), entry("b", "2")},
		"a beginning behind":       {entry("ab", "1"), right},
		"the empty key behind":     {right, entry("", "1")},
		"the empty key twice":      {entry("", "1"), entry("", "1")},
		"in no order":              {entry("b", "1"), entry("c", "1"), right, entry("d", "4")},
		"an empty value":           {entry("a", "")},
		"an empty value at last":   {right, entry("b", "2"), entry("c", "")},
		"a value that is too long": {entry("a", strings.Repeat("v", 257))},
		"a key that is too long":   {entry(strings.Repeat("k", 33), "1")},
		"too long at last":         {right, entry(strings.Repeat("k", 33), "1")},
	}
}

// badChanges tells changes that may not be.
func badChanges() map[string]api.Change {
	goneWith := gone("a")
	goneWith.Value = []byte("1")
	return map[string]api.Change{
		"no value":                 put("a", ""),
		"a value that is too long": put("a", strings.Repeat("v", 257)),
		"a key that is too long":   put(strings.Repeat("k", 33), "1"),
		"gone, and too long":       gone(strings.Repeat("k", 33)),
		"gone, with a value":       goneWith,
	}
}

// Of no records: the entries as they are.
func TestNoRecords(t *testing.T) {
	r := newRig(t, 256, 256)
	for _, m := range []map[string]string{nil, {"": "e"}, {"a": "1"}, {"a": "1", "ab": "2", "b": "3", "": "4"}, {strings.Repeat("k", 32): strings.Repeat("v", 256)}} {
		r.leads("26.3: no records", listed(m), nil, m)
		r.leads("26.3: no records", listed(m), []api.Record{}, m)
	}
	for what, l := range notMaps() {
		r.refuses("26.3: no records, "+what, l, nil, 0, api.ErrOrder)
	}
}

// Entries that are no map's, whatever the records are.
func TestEntriesThatMayNotBe(t *testing.T) {
	r := newRig(t, 256, 256)
	q := r.quill().open().commit(put("a", "1"))
	bad := api.Record{Kind: api.Committed, Changes: []api.Change{put("", "")}}
	for what, l := range notMaps() {
		for _, records := range [][]api.Record{q.records, q.records[1:], {bad}, {{Kind: 9}}, {{Kind: api.Opened, Root: q.root(nil)}}} {
			r.refuses("26.3: "+what, l, records, 0, api.ErrOrder)
		}
		root, e := shape.Root(r.plain, shape.Sort(l))
		r.refuses("26.3: with the root of the sorted ones, "+what, l, []api.Record{{Kind: api.Opened, Root: root}}, 0, api.ErrOrder)
		if e == api.OK {
			r.leads("26.3: sorted", shape.Sort(l), []api.Record{{Kind: api.Opened, Root: root}}, asMap(shape.Sort(l)))
		}
	}
}

func asMap(l []api.Entry) map[string]string {
	m := map[string]string{}
	for _, x := range l {
		m[string(x.Key)] = string(x.Value)
	}
	return m
}

// Batches done again, from the beginning on and from each place amid them.
func TestBatches(t *testing.T) {
	r := newRig(t, 256, 256)
	q := r.quill().long()
	q.commit(gone("a"), gone("ab"), gone("b"), gone(""), gone("not there")).open().commit(put("x", "y"))
	for from := range len(q.records) + 1 {
		var ahead map[string]string
		if from > 0 {
			ahead = q.maps[from-1]
		}
		for to := from; to <= len(q.records); to++ {
			want := ahead
			if to > from {
				want = q.maps[to-1]
			}
			r.leads(fmt.Sprintf("26.3: records %d to %d", from, to), listed(ahead), q.records[from:to], want)
		}
	}
}

// turnedRoot tells a record whose root has a bit turned.
func turnedRoot(r api.Record, at int) api.Record {
	r.Root[at%32] ^= 1 << (at % 8)
	return r
}

// Another root than the record's, at each record; each bit of it counts.
func TestOtherRoots(t *testing.T) {
	r := newRig(t, 256, 256)
	q := r.quill().long()
	for k := range q.records {
		for at := range 32 {
			records := slices.Clone(q.records)
			records[k] = turnedRoot(records[k], at)
			r.refuses(fmt.Sprint("26.3: another root, at record ", k), nil, records, k, api.ErrReplay)
			for i := k + 1; i < len(records); i++ {
				records[i] = turnedRoot(records[i], at)
			}
			r.refuses(fmt.Sprint("26.3: other roots, from record on ", k), nil, records, k, api.ErrReplay)
		}
		for i := range q.records {
			records := slices.Clone(q.records)
			records[k].Root = q.records[i].Root
			if records[k].Root != q.records[k].Root {
				r.refuses(fmt.Sprintf("26.3: the root of record %d at record %d", i, k), nil, records, k, api.ErrReplay)
			}
		}
		records := slices.Clone(q.records)
		records[k].Root = api.Hash{}
		r.refuses(fmt.Sprint("26.3: no root, at record ", k), nil, records, k, api.ErrReplay)
	}
	for k := 1; k < len(q.records); k++ {
		if first := q.records[k]; q.root(changed(nil, first.Changes...)) != first.Root {
			r.refuses("26.3: over nothing", nil, q.records[k:], 0, api.ErrReplay)
		}
	}
	r.refuses("26.3: over another map", listed(map[string]string{"b": "1"}), q.records, 0, api.ErrReplay)
}

// An opening amid commits: its root is held against the map, whatever its changes are, which are none.
func TestOpenings(t *testing.T) {
	r := newRig(t, 256, 256)
	q := r.quill().open().commit(put("a", "1"))
	now := q.opening()
	then := q.batch(put("b", "2"))
	want := map[string]string{"a": "1", "b": "2"}
	for _, changes := range [][]api.Change{nil, {put("b", "2")}, {gone("a")}, {put("", "")}, {put(strings.Repeat("k", 33), "")}} {
		now.Changes = changes
		r.leads("26.3: an opening amid commits", nil, append(slices.Clone(q.records), now, then, turnedRoots(q, want)), want)
		r.refuses("26.3: another root", nil, append(slices.Clone(q.records), turnedRoot(now, 3), then), 2, api.ErrReplay)
		x := now
		x.Root = then.Root
		r.refuses("26.3: the root of its changes", nil, append(slices.Clone(q.records), x, then), 2, api.ErrReplay)
		r.leads("26.3: openings alone", listed(map[string]string{"a": "1"}), []api.Record{now, now, now}, map[string]string{"a": "1"})
	}
}

// turnedRoots tells an opening that has the root of a map, and nothing else that is right.
func turnedRoots(q *quill, m map[string]string) api.Record {
	return api.Record{Kind: api.Opened, Count: -4, Seq: 99, Prev: api.Hash{9}, Root: q.root(m)}
}

// Records of each Kind, with changes and with none: those of a Committed one alone are done, and every one's root is looked at.
func TestKinds(t *testing.T) {
	r := newRig(t, 256, 256)
	q := r.quill()
	was, then := map[string]string{"a": "1"}, map[string]string{"a": "1", "b": "2"}
	for _, kind := range []int{-1 << 62, -1, 0, 1, 2, 3, 4, 257, 258, 1 << 32, 1<<32 + 2} {
		for _, ahead := range [][]api.Record{nil, {{Kind: api.Committed, Root: q.root(was)}}} {
			x := api.Record{Kind: kind, Changes: []api.Change{put("b", "2")}, Root: q.root(was)}
			with := append(slices.Clone(ahead), x)
			x.Root = q.root(then)
			done := append(slices.Clone(ahead), x)
			x.Changes = nil
			without := append(slices.Clone(ahead), x)
			x.Root = q.root(was)
			bare := append(slices.Clone(ahead), x)
			x.Changes = []api.Change{put("b", "")}
			bad := append(slices.Clone(ahead), x)
			k := len(ahead)
			r.leads(fmt.Sprint("26.3: Kind ", kind, " without changes"), listed(was), bare, was)
			r.refuses(fmt.Sprint("26.3: Kind ", kind, " without changes"), listed(was), without, k, api.ErrReplay)
			if kind == api.Committed {
				r.leads("26.3: a commit", listed(was), done, then)
				r.refuses("26.3: a commit", listed(was), with, k, api.ErrReplay)
				r.refuses("26.3: a commit of what may not be", listed(was), bad, k, api.ErrInput)
				continue
			}
			r.leads(fmt.Sprint("26.3: Kind ", kind), listed(was), with, was)
			r.leads(fmt.Sprint("26.3: Kind ", kind), listed(was), bad, was)
			r.refuses(fmt.Sprint("26.3: Kind ", kind), listed(was), done, k, api.ErrReplay)
		}
	}
}

// A batch that may not be, at each record and each place in it: told ahead of another root, and with the record's number.
func TestChangesThatMayNotBe(t *testing.T) {
	r := newRig(t, 256, 256)
	q := r.quill().long()
	for what, c := range badChanges() {
		for k := range q.records {
			if q.records[k].Kind != api.Committed {
				continue
			}
			for place := range len(q.records[k].Changes) + 1 {
				records := slices.Clone(q.records)
				records[k].Changes = slices.Insert(slices.Clone(records[k].Changes), place, c)
				r.refuses(fmt.Sprintf("26.3: %s, at record %d", what, k), nil, records, k, api.ErrInput)
				records[k] = turnedRoot(records[k], place)
				r.refuses(fmt.Sprintf("26.3: %s and another root, at record %d", what, k), nil, records, k, api.ErrInput)
				if k+1 < len(records) {
					records[k+1] = turnedRoot(records[k+1], place)
					r.refuses(fmt.Sprintf("26.3: %s, and another root behind it", what), nil, records, k, api.ErrInput)
				}
				records[k-1] = turnedRoot(records[k-1], place)
				r.refuses(fmt.Sprintf("26.3: %s, and another root ahead of it", what), nil, records, k-1, api.ErrReplay)
			}
		}
	}
}

// Nothing else of a record is looked at: its numbers, what it is chained to, how many changes it has.
func TestNothingElse(t *testing.T) {
	r := newRig(t, 256, 256)
	q := r.quill().long()
	want := q.now()
	for _, n := range []int64{-1 << 63, -1, 0, 1, 7, api.MaxCount + 1, 1<<63 - 1} {
		records := slices.Clone(q.records)
		for i := range records {
			records[i].Count, records[i].Seq, records[i].Prev = n, -n, api.Hash{byte(n), byte(i)}
		}
		r.leads(fmt.Sprint("26.3: Count ", n), nil, records, want)
	}
	m := map[string]string{}
	var many []api.Change
	for i := range 3 * api.MaxBatch {
		c := put(fmt.Sprint("key ", i%50), fmt.Sprint("value ", i))
		many = append(many, c)
		m = changed(m, c)
	}
	r.leads("26.3: more changes than a batch may have", nil, []api.Record{{Kind: api.Committed, Root: q.root(m), Changes: many}}, m)
	twice := append(slices.Clone(q.records), q.records[len(q.records)-1])
	r.leads("26.3: an opening twice", nil, twice, want)
	last := q.copied().commit(put("a", "again")).records
	twice = append(last, last[len(last)-1])
	r.leads("26.3: a commit twice that changes nothing the second time", nil, twice, changed(want, put("a", "again")))
}

// Batches that come to nothing, that undo one another, that set what is there.
func TestBatchesOfNothing(t *testing.T) {
	r := newRig(t, 256, 256)
	q := r.quill().open().commit().commit(gone("x")).commit(put("x", "1"), gone("x")).commit(put("x", "1")).commit(put("x", "1"))
	q.commit(gone("x"), put("x", "2"), put("x", "1")).commit(gone("x")).commit()
	for n := range len(q.records) + 1 {
		var want map[string]string
		if n > 0 {
			want = q.maps[n-1]
		}
		r.leads("26.3: batches of nothing", nil, q.records[:n], want)
	}
	if len(q.now()) != 0 || q.head().Root != q.root(nil) {
		t.Errorf("another map than none: %v", q.now())
	}
}

// Keys and values of all lengths that may be, at their edges.
func TestEdges(t *testing.T) {
	r := newRig(t, 256, 256)
	q := r.quill().open()
	for _, n := range []int{0, 1, 31, 32} {
		for _, l := range []int{1, 2, 255, 256} {
			q.commit(put(strings.Repeat("\x00", n), strings.Repeat("v", l)), put(strings.Repeat("\xff", n), strings.Repeat("\x00", l)))
		}
	}
	r.leads("26.3: the edges", nil, q.records, q.now())
	for _, n := range []int{0, 1, 31, 32} {
		q.commit(gone(strings.Repeat("\x00", n)))
	}
	r.leads("26.3: the edges", nil, q.records, q.now())
	if maps.Equal(q.now(), map[string]string{}) || len(q.now()) != 3 {
		t.Errorf("another map: %d entries", len(q.now()))
	}
}
