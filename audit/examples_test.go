package audit_test

import (
	"maps"
	"testing"

	"cairn/api"
	"cairn/audit"
	"cairn/media"
	"cairn/store"
)

// The chapter's examples, by their numbers.

// session is what the examples speak of, as a store leaves it: an opening's record, and a commit's of "a" with "1".
func session(t *testing.T, r *rig) (log string, reg api.Register, q *quill) {
	t.Helper()
	d, _ := media.New(64, 60000)
	s, e := store.Open(d, r.book, 4)
	if e != api.OK || s.Put([]byte("a"), []byte("1")) != api.OK {
		t.Fatalf("a session: %d", e)
	}
	if _, e := s.Commit(); e != api.OK {
		t.Fatalf("a commit: %d", e)
	}
	q = r.quill().open().commit(put("a", "1"))
	m := d.Media()
	if string(m.Log) != q.log() || m.Reg != q.reg() {
		t.Fatalf("a store leaves another log than its two records")
	}
	return string(m.Log), m.Reg, q
}

func TestExample1(t *testing.T) {
	r := newRig(t, 256, 256)
	log, reg, q := session(t, r)
	t1, t2, empty, root := q.heads[0].Tag, q.heads[1].Tag, q.root(nil), q.root(map[string]string{"a": "1"})
	want := audit.Finding{Records: 2, From: api.Head{Count: 1, Tag: t1, Root: empty}, To: api.Head{Count: 2, Seq: 1, Tag: t2, Root: root}, At: -1}
	r.finds("example 1", log, reg, want)
	want.Err = 200
	r.finds("example 1", log, api.Register{Count: 1, Tag: t1}, want)
	r.finds("example 1", "", api.Register{}, audit.Finding{At: -1})
	r.finds("example 1", "", api.Register{Count: 1, Tag: t1}, audit.Finding{Err: 200, At: -1})
}

func TestExample2(t *testing.T) {
	r := newRig(t, 256, 256)
	_, reg, q := session(t, r)
	first, second := q.frames[0], q.frames[1]
	behind := api.Head{Count: 2, Seq: 1, Tag: q.heads[1].Tag, Root: q.root(map[string]string{"a": "1"})}
	r.finds("example 2", second, reg, audit.Finding{Records: 1, From: behind, To: behind, At: -1})
	r.finds("example 2", second+first, reg, audit.Finding{Records: 1, From: behind, To: behind, Err: 192, At: 1})
}

func TestExample3(t *testing.T) {
	r := newRig(t, 256, 256)
	log, reg, q := session(t, r)
	behind := api.Head{Count: 1, Tag: q.heads[0].Tag, Root: q.root(nil)}
	r.finds("example 3", log[:len(log)-1], reg, audit.Finding{Records: 1, From: behind, To: behind, Err: 91, At: 1})
}

func TestExample4(t *testing.T) {
	r := newRig(t, 256, 256)
	_, _, q := session(t, r)
	r.leads("example 4", nil, q.records, map[string]string{"a": "1"})
	r.refuses("example 4", listed(map[string]string{"b": "1"}), q.records, 0, 260)
	r.refuses("example 4", []api.Entry{{Key: []byte("a")}}, q.records, 0, 140)
	if m, n, e := r.replay(nil, q.records); n != 2 || e != 0 || !maps.Equal(m, map[string]string{"a": "1"}) {
		t.Errorf("example 4: %v, %d, %d", m, n, e)
	}
}

// A nil book, whatever else is handed in.
func TestNilBook(t *testing.T) {
	r := newRig(t, 256, 256)
	log, reg, q := session(t, r)
	for _, l := range []string{"", log, q.frames[1] + q.frames[0], log[:9], "rubbish"} {
		for _, x := range []api.Register{{}, reg, {Count: 1}, {Count: -1, Tag: reg.Tag}} {
			if f := audit.Log(nil, []byte(l), x); f != (audit.Finding{Err: 1, At: -1}) {
				t.Errorf("26.2: with a nil book Log finds %s", showFinding(f))
			}
		}
	}
	for _, entries := range [][]api.Entry{nil, {}, listed(q.now()), {{}}, {{Key: make([]byte, 33)}}} {
		for _, records := range [][]api.Record{nil, {}, q.records, q.records[1:], {{}}, {{Kind: 7}}, {{Kind: api.Committed, Changes: []api.Change{{}}}}} {
			if l, n, e := audit.Replay(nil, entries, records); len(l) != 0 || n != 0 || e != 1 {
				t.Errorf("26.3: with a nil book Replay answers %s, %d, %d", showEntries(l), n, e)
			}
		}
	}
}
