package audit_test

import (
	"fmt"
	"slices"
	"strings"
	"testing"

	"cairn/api"
	"cairn/audit"
)

// astray tells records that do not follow, where a given one would; each with what is another in it.
func astray(q *quill, r api.Record) map[string]api.Record {
	out := map[string]api.Record{}
	alter := func(what string, how func(r *api.Record)) {
		x := r
		how(&x)
		out[what] = x
	}
	for _, by := range []int64{-1, 1, 2, 256, 1 << 32} {
		if r.Count+by >= max(r.Seq, 1) {
			alter(fmt.Sprint("Count ", by), func(r *api.Record) { r.Count += by })
		}
		if r.Seq+by >= 1 && r.Seq+by <= r.Count {
			alter(fmt.Sprint("Seq ", by), func(r *api.Record) { r.Seq += by })
		}
	}
	for i := range r.Prev {
		alter(fmt.Sprint("Prev at ", i), func(r *api.Record) { r.Prev[i] ^= 128 >> (i % 8) })
		if r.Kind == api.Opened {
			alter(fmt.Sprint("Root at ", i), func(r *api.Record) { r.Root[i] ^= 128 >> (i % 8) })
		}
	}
	alter("Prev of zeros", func(r *api.Record) { r.Prev = api.Hash{} })
	if len(q.heads) > 1 {
		alter("Prev of the one ahead", func(r *api.Record) { r.Prev = q.heads[len(q.heads)-2].Tag })
	}
	switch {
	case r.Kind == api.Committed:
		alter("an opening with the Seq of a commit", func(r *api.Record) { r.Kind, r.Changes = api.Opened, nil })
		alter("an opening with the Root of a commit", func(r *api.Record) { r.Kind, r.Changes, r.Seq = api.Opened, nil, r.Seq-1 })
		alter("a commit with the Seq ahead", func(r *api.Record) { r.Seq-- })
	case r.Seq > 0:
		alter("a commit with the Seq of an opening", func(r *api.Record) { r.Kind = api.Committed })
	}
	for what, x := range out {
		if x.Kind == api.Committed && x.Seq < 1 || x.Seq == r.Seq && x.Count == r.Count && x.Prev == r.Prev && x.Root == r.Root && x.Kind == r.Kind {
			delete(out, what) // it may not be, or is the same
		}
		if what == "an opening with the Root of a commit" && x.Root == q.head().Root {
			delete(out, what) // of a batch that changes nothing: it follows
		}
	}
	return out
}

// copied tells a quill that has written the same, and goes on by itself.
func (q *quill) copied() *quill {
	x := *q
	x.records, x.frames, x.heads, x.maps = slices.Clip(x.records), slices.Clip(x.frames), slices.Clip(x.heads), slices.Clip(x.maps)
	return &x
}

// steps are how a log may go on, step by step.
func steps() []func(q *quill) *quill {
	return []func(q *quill) *quill{
		(*quill).open,
		func(q *quill) *quill { return q.commit(put("a", "1")) },
		func(q *quill) *quill { return q.commit() },
		(*quill).open,
		(*quill).open,
		func(q *quill) *quill { return q.commit(put("b", "2"), gone("a")) },
	}
}

// A record that does not follow, at the second entry, at the last, and between; what stands behind it follows it, so that nothing
// else is wrong.
func TestRecordsThatDoNotFollow(t *testing.T) {
	r := newRig(t, 256, 256)
	q := r.quill().open()
	looked := 0
	for at := 1; at < 6; at++ {
		right := []api.Record{q.opening(), q.batch(), q.batch(put("k", "v"), gone("a"))}
		for _, record := range right {
			for what, x := range astray(q, record) {
				y := q.copied().write(x)
				promise := fmt.Sprintf("26.2: %s, at entry %d", what, at)
				r.finds(promise, y.log(), y.reg(), y.wrong(at, api.ErrChain))
				r.finds(promise, y.log(), q.reg(), y.wrong(at, api.ErrChain))
				r.finds(promise, y.log(), api.Register{}, y.wrong(at, api.ErrChain))
				y.open().commit(put("z", "9")).open()
				r.finds(promise+" of many", y.log(), y.reg(), y.wrong(at, api.ErrChain))
				looked++
			}
			y := q.copied().write(record)
			r.finds("26.2: one that follows", y.log(), y.reg(), y.right(0, at+1))
		}
		q = steps()[at](q)
	}
	if looked < 700 {
		t.Errorf("%d records: too few to tell", looked)
	}
}

// At the first entry nothing is asked: any record that may be can stand there.
func TestFirstRecord(t *testing.T) {
	r := newRig(t, 256, 256)
	ahead := r.quill().long()
	for _, record := range []api.Record{ahead.opening(), ahead.batch(put("k", "v")), r.quill().opening(), r.quill().batch(put("k", "v"))} {
		for what, x := range astray(ahead, record) {
			q := r.quill().write(x)
			r.finds("26.2: alone: "+what, q.log(), q.reg(), q.right(0, 1))
			r.finds("26.2: alone: "+what, q.log(), api.Register{}, q.stale())
			q.open()
			r.finds("26.2: first: "+what, q.log(), q.reg(), q.right(0, 2))
		}
	}
}

// The first of several that do not follow is told.
func TestFirstOfSeveral(t *testing.T) {
	r := newRig(t, 256, 256)
	q := r.quill().long()
	for at := 1; at < 5; at++ {
		y := r.quill()
		for k, x := range q.records {
			if k >= at {
				x.Prev[k] ^= 1
			}
			y.write(x)
		}
		r.finds("26.2: several", y.log(), y.reg(), y.wrong(at, api.ErrChain))
	}
}

// A log may begin at any record.
func TestBeginning(t *testing.T) {
	r := newRig(t, 256, 256)
	q := r.quill().long()
	n := len(q.frames)
	for from := range n {
		for to := from + 1; to <= n; to++ {
			part := strings.Join(q.frames[from:to], "")
			r.finds("26.2: a part", part, registerOf(q.heads[to-1]), q.right(from, to))
			if to < n {
				want := q.right(from, to)
				want.Err = api.ErrStale
				r.finds("26.2: a part", part, q.reg(), want)
			}
		}
	}
}

// Records in another order, one left out, one twice.
func TestOtherOrders(t *testing.T) {
	r := newRig(t, 256, 256)
	q := r.quill().long()
	n := len(q.frames)
	for i := range n {
		without := strings.Join(slices.Delete(slices.Clone(q.frames), i, i+1), "")
		switch i {
		case 0:
			r.finds("26.2: without the first", without, q.reg(), q.right(1, n))
		case n - 1:
			want := q.right(0, n-1)
			want.Err = api.ErrStale
			r.finds("26.2: without the last", without, q.reg(), want)
		default:
			r.finds(fmt.Sprint("26.2: without ", i), without, q.reg(), q.wrong(i, api.ErrChain))
		}
		for k := range n + 1 {
			twice := strings.Join(slices.Insert(slices.Clone(q.frames), k, q.frames[i]), "")
			at := k
			switch {
			case k == i || k == i+1:
				at = i + 1
			case k == 0:
				at = 1
			}
			f := r.log(twice, q.reg())
			if f.Err != api.ErrChain || f.At != at || f.Records != at || k > 0 && f != q.wrong(at, api.ErrChain) {
				r.fails("26.2: %d twice, at %d: Log finds %s, not entry %d", i, k, showFinding(f), at)
			}
		}
		for k := i + 1; k < n; k++ {
			x := slices.Clone(q.frames)
			x[i], x[k] = x[k], x[i]
			at := max(i, 1)
			if f := r.log(strings.Join(x, ""), q.reg()); f.Err != api.ErrChain || f.At != at || f.Records != at {
				r.fails("26.2: %d and %d exchanged: Log finds %s, not entry %d", i, k, showFinding(f), at)
			}
		}
	}
	x := slices.Clone(q.frames)
	slices.Reverse(x)
	r.finds("26.2: the other way round", strings.Join(x, ""), q.reg(), audit.Finding{Records: 1, From: q.head(), To: q.head(), Err: api.ErrChain, At: 1})
	r.finds("26.2: twice the whole", q.log()+q.log(), q.reg(), q.wrong(n, api.ErrChain))
}

// broken tells what ends a scan, behind whole records, with the error of each.
func broken(r *rig) map[string]api.Errno {
	other := r.stranger(9).open()
	frame := r.stranger(0).open().frames[0]
	return map[string]api.Errno{
		"\x00":                             api.ErrMark,
		"rubbish":                          api.ErrMark,
		"\xca":                             api.ErrCut,
		frame[:len(frame)-1]:               api.ErrCut,
		"\xca\x00\x00\x00\xff\xff\xff":     api.ErrRecord,
		"\xca\x00\x00\x01\xff\xff\xfe\xc0": api.ErrRecord,
		other.log():                        api.ErrMac,
		"\xca\x00\x00\x01\xff\xff\xff\xc0": api.ErrMark,
	}
}

// A record that does not follow is told ahead of a fault that the scan tells behind it; and a fault ahead of it hides it.
func TestWhichIsFirst(t *testing.T) {
	r := newRig(t, 256, 256)
	q := r.quill().long()
	x := r.quill().open().commit(put("x", "1"))
	x.records[1].Seq, x.records[1].Count, x.records[1].Prev[3] = 2, 4, 7
	stray := r.quill().write(x.records[1]).frames[0]
	n := len(q.frames)
	for text, e := range broken(r) {
		for at := 1; at <= n; at++ {
			ahead, behind := strings.Join(q.frames[:at], ""), strings.Join(q.frames[at:], "")
			for _, reg := range []api.Register{q.reg(), {}, registerOf(q.heads[at-1])} {
				r.finds("26.2: one that does not follow, then a fault", ahead+stray+text, reg, q.wrong(at, api.ErrChain))
				r.finds("26.2: one that does not follow, others, a fault", ahead+stray+q.frames[0]+text, reg, q.wrong(at, api.ErrChain))
				r.finds("26.2: a fault, then one that does not follow", ahead+text+stray, reg, faultBehind(r, q.wrong(at, e), text, stray))
				r.finds("26.2: a fault alone", ahead+text, reg, q.wrong(at, e))
				r.finds("26.2: a fault, then the rest", ahead+text+behind, reg, faultBehind(r, q.wrong(at, e), text, behind))
			}
		}
		r.finds("26.2: a fault alone", text, q.reg(), audit.Finding{Err: e})
		r.finds("26.2: a fault, first", text, api.Register{}, audit.Finding{Err: e})
		r.finds("26.2: behind one that is not right", stray+text, q.reg(), audit.Finding{Records: 1, From: headIn(r, stray), To: headIn(r, stray), Err: e, At: 1})
	}
}

// headIn tells the head behind a record.
func headIn(r *rig, text string) api.Head { return wantLog(r.plain, text, api.Register{}).To }

// faultBehind tells what is found where something stands behind a fault: a frame that was cut off may be filled by that to one
// with another code.
func faultBehind(r *rig, f audit.Finding, text, behind string) audit.Finding {
	if f.Err == api.ErrCut {
		f.Err = wantLog(r.plain, text+behind, api.Register{}).Err
	}
	return f
}
