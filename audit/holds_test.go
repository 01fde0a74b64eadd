package audit_test

import (
	"fmt"
	"maps"
	"math/rand"
	"strings"
	"testing"

	"cairn/api"
	"cairn/audit"
)

// What holds, of logs that stores have left.

// 26.4, 26.5, W8: one session, and several one behind the other, on an honest device; with room for all, and with so little that
// the log's beginning is taken away.
func TestSessions(t *testing.T) {
	for _, c := range []struct{ room, codeBits int }{{60000, 256}, {60000, 8}, {1500, 256}, {1200, 256}, {1200, 8}} {
		t.Run(fmt.Sprint(c.room, " with ", c.codeBits), func(t *testing.T) {
			t.Parallel()
			rnd := rand.New(rand.NewSource(int64(26000 + c.room + c.codeBits)))
			trimmed := 0
			for range 2 + rounds(10) {
				h := newHouse(t, c.room, c.codeBits)
				for range 2 + rnd.Intn(4) {
					if e := h.open(); e != api.OK {
						h.fails("W2: an opening: %d", e)
					}
					h.audit()
					for range rnd.Intn(10) {
						if e := h.commit(someChanges(rnd, 5)...); e != api.OK {
							h.fails("W2: a commit: %d", e)
						}
						h.audit()
					}
				}
				trimmed += h.trimmed
			}
			if (trimmed > 0) != (c.room < 60000) {
				t.Errorf("%d logs had lost their beginning", trimmed)
			}
		})
	}
}

// 26.4, 26.5, W8: torn writes and crashes at every access of openings and commits; the opening behind them settles what they have left.
func TestSettledCrashes(t *testing.T) {
	for _, room := range []int{60000, 1500} {
		t.Run(fmt.Sprint(room), func(t *testing.T) {
			t.Parallel()
			rnd := rand.New(rand.NewSource(int64(26500 + room)))
			trimmed, taken, lost := 0, 0, 0
			for range rounds(30) {
				h := newHouse(t, room, 256)
				for range 12 {
					c := api.Choice{Kind: []int{api.Torn, api.Torn, api.Crash, api.After}[rnd.Intn(4)], N: rnd.Intn(1 + rnd.Intn(400))}
					was := len(h.maps)
					if h.s == nil || rnd.Intn(3) == 0 {
						h.down(rnd.Intn(6), c, h.open)
					} else {
						most := rnd.Intn(3)
						h.down(rnd.Intn(3+3*most), c, func() api.Errno { return h.commit(someChanges(rnd, most)...) })
					}
					maybe := h.maybe != nil
					if e := h.open(); e != api.OK {
						h.fails("W3: an opening: %d", e)
					}
					h.audit()
					switch {
					case maybe && len(h.maps) > was:
						taken++
					case maybe:
						lost++
					}
					for range rnd.Intn(3) {
						h.commit(someChanges(rnd, 4)...)
						h.audit()
					}
				}
				trimmed += h.trimmed
			}
			if (trimmed > 0) != (room < 60000) || taken < rounds(20) || lost < rounds(30) {
				t.Errorf("%d logs had lost their beginning, %d commits that went down were taken, %d not: too few to tell", trimmed, taken, lost)
			}
		})
	}
}

// What a crash has left is told till it is settled: a record that the register does not stand for yet, or a part of one.
func TestUnsettledCrashes(t *testing.T) {
	h := newHouse(t, 60000, 256)
	h.open()
	h.commit(put("a", "1"))
	q := h.audit()
	n := len(q.frames)
	for at, access := range []string{"reg", "get", "put", "append", "setreg"} { // of a commit of one change in a leaf
		for _, c := range []api.Choice{{Kind: api.Crash}, {Kind: api.After}, {Kind: api.Torn, N: 1}, {Kind: api.Torn, N: 50}, {Kind: api.Torn}} {
			h := newHouse(t, 60000, 256)
			h.open()
			h.commit(put("a", "1"))
			if c.Kind == api.Torn && strings.HasSuffix(access, "reg") {
				continue // the register knows no torn writes
			}
			h.down(at, c, func() api.Errno { return h.commit(put("a", "2")) })
			m := h.d.Media()
			r := newRig(t, 256, 256)
			f := r.log(string(m.Log), m.Reg)
			want := q.right(0, n)
			switch {
			case at == 3 && c.Kind == api.Torn && c.N > 0:
				want = q.wrong(n, api.ErrCut)
			case at == 3 && c.Kind == api.After, at == 4 && c.Kind == api.Crash:
				want.Records, want.To, want.Err = n+1, f.To, api.ErrStale // the register does not stand for it yet
			case at == 4:
				want.Records, want.To = n+1, f.To
			}
			if f != want || want.Records > n && (f.To.Count != q.head().Count+1 || f.To.Seq != 2) {
				h.fails("26.2: %v at %s: Log finds %s, not %s", c, access, showFinding(f), showFinding(want))
			}
			h.open()
			h.audit()
		}
	}
}

// A log that was rolled back, and a register that has moved on without it, are told.
func TestRolledBack(t *testing.T) {
	h := newHouse(t, 60000, 256)
	h.open()
	var logs []string
	var regs []api.Register
	for i := range 6 {
		h.commit(put("a", fmt.Sprint(i)))
		q := h.audit()
		logs, regs = append(logs, q.log()), append(regs, q.reg())
	}
	q := h.audit()
	r := newRig(t, 256, 256)
	for i, log := range logs {
		for k, reg := range regs {
			want := q.right(0, i+2)
			if i != k {
				want.Err = api.ErrStale
			}
			r.finds("26.2: another time's log", log, reg, want)
		}
	}
}

// 26.6, 26.7: the logs that stores have left, cut off at every byte, and with a byte turned in every record's last 32.
func TestLeftLogs(t *testing.T) {
	for _, c := range []struct{ room, codeBits int }{{60000, 256}, {1500, 256}, {1500, 8}} {
		rnd := rand.New(rand.NewSource(int64(26700 + c.room + c.codeBits)))
		h := newHouse(t, c.room, c.codeBits)
		for range 3 {
			h.open()
			for range 4 {
				h.commit(someChanges(rnd, 4)...)
			}
		}
		q := h.audit()
		r := newRig(t, 256, c.codeBits)
		checkCut(r, q)
		if (h.trimmed > 0) != (c.room < 60000) || len(q.frames) < 4 {
			t.Errorf("a log of %d records from count %d on: too few to tell", len(q.frames), q.heads[0].Count)
		}
		for k := range q.frames {
			for at := q.begin(k+1) - 32; at < q.begin(k+1); at++ {
				for _, by := range []byte{1, 2, 64, 128, 255} {
					r.finds(fmt.Sprint("26.7: in record ", k), turned(q.log(), at, by), q.reg(), q.wrong(k, api.ErrMac))
				}
			}
		}
	}
}

// 26.5, W8: a long life of one map: what grow has made of it batch by batch is what the batches lead to.
func TestLongLife(t *testing.T) {
	rnd := rand.New(rand.NewSource(2605))
	h := newHouse(t, api.MaxRoom, 256)
	h.open()
	for i := range rounds(150) {
		h.commit(someChanges(rnd, 32)...)
		if i%20 == 0 {
			h.open()
		}
	}
	q := h.audit()
	if h.trimmed != 0 || q.heads[0].Count != 1 {
		t.Errorf("the log has lost its beginning")
	}
	r := newRig(t, 256, 256)
	var records []api.Record
	for k := range q.records {
		records = append(records, q.records[k])
		if k%(1+len(q.records)/10) == 0 {
			r.leads("26.5", nil, records, h.maps[q.heads[k].Seq])
		}
	}
	entries, more, e := h.s.Scan(api.Bounds{Open: true}, api.MaxDelta)
	got, n, f := audit.Replay(r.book, nil, records)
	if e != api.OK || more || f != api.OK || n != len(records) || showEntries(got) != showEntries(entries) || !maps.Equal(asMap(got), h.now()) {
		t.Errorf("26.5: the store has %d entries, the batches done again lead to %d", len(entries), len(got))
	}
}
