package audit_test

import (
	"fmt"
	"testing"

	"cairn/api"
	"cairn/audit"
)

// long tells a log of an opening, some batches, an opening amid them, and some more.
func (q *quill) long() *quill {
	q.open().commit(put("a", "1")).commit(put("b", "2"), put("", "empty key"), gone("a"))
	q.open().commit().commit(put("a", "3"), put("ab", "4"), put("a", "5"))
	return q.open()
}

// others tells registers that nearly are a given one, each with what is another in it.
func others(reg api.Register) map[string]api.Register {
	out := map[string]api.Register{
		"the greatest Count":          {Count: api.MaxCount, Tag: reg.Tag},
		"a Count of zero":             {Tag: reg.Tag},
		"the Count below 0":           {Count: -reg.Count, Tag: reg.Tag},
		"one more":                    {Count: reg.Count + 1, Tag: reg.Tag},
		"one less":                    {Count: reg.Count - 1, Tag: reg.Tag},
		"the Count beyond four bytes": {Count: reg.Count + 1<<32, Tag: reg.Tag},
		"the least number":            {Count: -1 << 63, Tag: reg.Tag},
		"the greatest number":         {Count: 1<<63 - 1, Tag: reg.Tag},
		"a Tag of zeros":              {Count: reg.Count},
		"both":                        {Count: reg.Count + 1, Tag: api.Hash{7}},
	}
	for name, x := range out {
		if x == reg {
			delete(out, name)
		}
	}
	for i := range reg.Tag {
		x := reg
		x.Tag[i] ^= 1 << (i % 8)
		out[fmt.Sprint("the Tag's byte ", i)] = x
	}
	return out
}

// No record: just the register of zeros stands for that.
func TestNoRecord(t *testing.T) {
	r := newRig(t, 256, 256)
	r.finds("26.2", "", api.Register{}, audit.Finding{At: -1})
	if f := audit.Log(r.book, []byte{}, api.Register{}); f != (audit.Finding{At: -1}) {
		t.Errorf("R4: Log of an empty list finds %s", showFinding(f))
	}
	if f := audit.Log(r.book, nil, api.Register{}); f != (audit.Finding{At: -1}) {
		t.Errorf("R4: Log of nil finds %s", showFinding(f))
	}
	for name, reg := range others(api.Register{}) {
		r.finds("26.2: no record, "+name, "", reg, audit.Finding{Err: api.ErrStale, At: -1})
	}
	q := r.quill().open()
	for _, reg := range []api.Register{q.reg(), {Count: 1}, {Tag: q.head().Tag}} {
		r.finds("26.2: no record", "", reg, audit.Finding{Err: api.ErrStale, At: -1})
	}
}

// The register of the last record, and others.
func TestRegister(t *testing.T) {
	r := newRig(t, 256, 256)
	q := r.quill().long()
	for n := 1; n <= len(q.frames); n++ {
		x := &quill{t: t, frames: q.frames[:n], heads: q.heads[:n]}
		reg := x.reg()
		r.finds("26.2: the register of the last", x.log(), reg, audit.Finding{Records: n, From: q.heads[0], To: q.heads[n-1], At: -1})
		for k, h := range q.heads {
			if k != n-1 {
				r.finds("26.2: the register of another record", x.log(), registerOf(h), x.stale())
				r.finds("26.2: another one's Count", x.log(), api.Register{Count: h.Count, Tag: reg.Tag}, x.stale())
				r.finds("26.2: another one's Tag", x.log(), api.Register{Count: reg.Count, Tag: h.Tag}, x.stale())
			}
		}
		r.finds("26.2: the register of zeros", x.log(), api.Register{}, x.stale())
		for name, other := range others(reg) {
			r.finds("26.2: "+name, x.log(), other, x.stale())
		}
	}
}

// Of what the register says, Seq and Root of the last record are no part: they are told as the record says them.
func TestHeads(t *testing.T) {
	r := newRig(t, 256, 256)
	q := r.quill().write(api.Record{Kind: api.Committed, Count: 70000, Seq: 69999, Prev: api.Hash{1, 2}, Root: api.Hash{3, 4}, Changes: []api.Change{gone("x")}})
	q.write(api.Record{Kind: api.Opened, Count: 70001, Seq: 69999, Prev: q.head().Tag, Root: api.Hash{3, 4}})
	q.write(api.Record{Kind: api.Committed, Count: 70002, Seq: 70000, Prev: q.head().Tag, Root: api.Hash{5, 6}})
	f := r.log(q.log(), q.reg())
	from := api.Head{Count: 70000, Seq: 69999, Tag: q.heads[0].Tag, Root: api.Hash{3, 4}}
	to := api.Head{Count: 70002, Seq: 70000, Tag: q.heads[2].Tag, Root: api.Hash{5, 6}}
	if f.From != from || f.To != to || f.Records != 3 || f.Err != api.OK || f.At != -1 {
		t.Errorf("26.1: Log finds %s, not from %s to %s", showFinding(f), showHead(from), showHead(to))
	}
}

// The greatest counter: no record follows it, and the register may stand for it.
func TestGreatestCount(t *testing.T) {
	r := newRig(t, 256, 256)
	q := r.quill().write(api.Record{Kind: api.Opened, Count: api.MaxCount - 1, Seq: 5})
	q.write(api.Record{Kind: api.Committed, Count: api.MaxCount, Seq: 6, Prev: q.head().Tag})
	r.finds("26.2: the greatest counter", q.log(), q.reg(), q.right(0, 2))
	q.write(api.Record{Kind: api.Opened, Count: 1, Prev: q.head().Tag})
	r.finds("26.2: behind the greatest counter", q.log(), q.reg(), q.wrong(2, api.ErrChain))
}
