package journal

import "cairn/api"

// look is how the fields of records of one kind are looked at.
type look struct {
	kind        int
	batches     int64 // how many batches such a record adds: its Seq, which counts it too, is so many more than the head's, and no less than that
	mostChanges int
	rootStays   bool // whether its Root is that of the head that it follows
}

// kinds are the kinds of records that there are.
var kinds = [2]look{
	{kind: api.Opened, batches: 0, mostChanges: 0, rootStays: true},
	{kind: api.Committed, batches: 1, mostChanges: api.MaxBatch, rootStays: false},
}

// lookOf tells how records of a kind are looked at, and whether there is such a kind.
func lookOf(kind int) (look, bool) {
	for _, k := range kinds {
		if k.kind == kind {
			return k, true
		}
	}
	return look{}, false
}

// mayBe tells whether a record may be.
func mayBe(r api.Record) bool {
	k, known := lookOf(r.Kind)
	if !known || r.Count < 1 || r.Count > api.MaxCount {
		return false
	}
	if r.Seq < k.batches || r.Seq > r.Count || len(r.Changes) > k.mostChanges {
		return false
	}
	for _, c := range r.Changes {
		if !mayStand(c) {
			return false
		}
	}
	return true
}

// mayStand tells whether a change may stand in a record: just one that is Gone has no value.
func mayStand(c api.Change) bool {
	if len(c.Key) > api.MaxKey || len(c.Value) > api.MaxValue {
		return false
	}
	return c.Gone == (len(c.Value) == 0)
}
