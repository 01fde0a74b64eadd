package audit_test

import (
	"fmt"
	"slices"
	"strings"
	"sync"
	"testing"

	"cairn/api"
	"cairn/audit"
	"cairn/shape"
)

// lists are all lists of entries that some calls have handed out.
type lists [][]api.Entry

// shares writes a mark of its own into each piece of memory, spare room too, and tells whether one of them has lost its mark.
func (l lists) shares() bool {
	lost, mark := false, 0
	pieces := l.pieces()
	for _, b := range pieces {
		fill(b, byte(mark))
		mark++
	}
	for i, b := range pieces {
		lost = lost || slices.ContainsFunc(b[:cap(b)], func(x byte) bool { return x != byte(i) })
	}
	for i, entries := range l {
		for k := range entries[:cap(entries)] {
			entries[:cap(entries)][k] = api.Entry{Key: []byte{byte(i)}}
		}
	}
	for i, entries := range l {
		lost = lost || slices.ContainsFunc(entries[:cap(entries)], func(x api.Entry) bool { return string(x.Key) != string([]byte{byte(i)}) })
	}
	return lost
}

func (l lists) pieces() [][]byte {
	var out [][]byte
	for _, entries := range l {
		for _, x := range entries[:cap(entries)] {
			out = append(out, x.Key, x.Value)
		}
	}
	return out
}

func TestTheRigSeesWhatIsShared(t *testing.T) {
	b := []byte("some bytes")
	one := []api.Entry{{Key: b[:3], Value: b[5:]}}
	for i, l := range []lists{{one}, {{{Key: b}}, {{Value: b[:0]}}}, {one[:0], one}} {
		if !l.shares() {
			t.Errorf("lists %d are said to share nothing", i)
		}
	}
	if (lists{{{Key: b[:3:3], Value: b[3:]}}, {{}}}).shares() {
		t.Errorf("what is apart is said to share")
	}
}

// What Replay hands out is new memory: no list of it shares any with another one, with another answer's, or with what was handed in.
func TestReplayAnswersNewMemory(t *testing.T) {
	r := newRig(t, 256, 256)
	base := map[string]string{"": "empty", "a": "1", "ab": "2", "k": strings.Repeat("v", 40)}
	q := r.stranger(0)
	root := api.Record{Kind: api.Opened, Root: q.root(base)}
	changes := []api.Change{put("b", "3"), gone("a"), put("ab", "4"), put("ab", strings.Repeat("w", 256))}
	then := changed(base, changes...)
	batch := api.Record{Kind: api.Committed, Root: q.root(then), Changes: changes}
	nothing := api.Record{Kind: api.Committed, Root: q.root(then)}
	for _, c := range []struct {
		records []api.Record
		want    map[string]string
	}{
		{nil, base},
		{[]api.Record{root}, base},
		{[]api.Record{batch}, then},
		{[]api.Record{root, batch, nothing, nothing}, then},
		{[]api.Record{{Kind: api.Committed, Root: root.Root}}, base},
	} {
		in := handIn(listed(base), c.records)
		one, _, e := audit.Replay(r.book, in.entries, in.records)
		two, _, f := audit.Replay(r.book, in.entries, in.records)
		if e != api.OK || f != api.OK || in.tell() != in.was {
			t.Fatalf("R3: Replay answers %d, %d, or what was handed in is changed", e, f)
		}
		in.spoil()
		if want := showEntries(listed(c.want)); showEntries(one) != want || showEntries(two) != want {
			t.Errorf("R3: the answer hangs on what became of what was handed in: %s", showEntries(one))
		}
		in = handIn(listed(base), c.records)
		three, _, _ := audit.Replay(r.book, in.entries, in.records)
		all := lists{one, two, three, in.entries}
		for _, x := range in.records {
			for _, change := range x.Changes[:cap(x.Changes)] {
				all = append(all, []api.Entry{{Key: change.Key, Value: change.Value}})
			}
		}
		if all.shares() {
			t.Errorf("R3: lists share memory behind %d records", len(c.records))
		}
	}
}

// Whoever appends to what was handed out writes into nothing else.
func TestAnswersMayGrow(t *testing.T) {
	r := newRig(t, 256, 256)
	q := r.quill().long()
	l, _, _ := audit.Replay(r.book, nil, q.records)
	for _, x := range l {
		_ = append(x.Key, "beyond its end"...)
		_ = append(x.Value, "beyond its end"...)
	}
	_ = append(l, api.Entry{Key: []byte("beyond its end")})
	if showEntries(l) != showEntries(listed(q.now())) {
		t.Errorf("R3: an answer lies in another one's spare room: %s", showEntries(l))
	}
}

// Entries and changes that lie in one memory, each in the spare room of the one ahead, in one list of keys that is a list of values too.
func TestHandedInInOneMemory(t *testing.T) {
	r := newRig(t, 256, 256)
	memory := []byte("abcdefgh")
	entries := []api.Entry{{Key: memory[0:1], Value: memory[0:3]}, {Key: memory[1:2], Value: memory[2:4]}, {Key: memory[1:5], Value: memory[4:5]}}
	changes := []api.Change{{Key: memory[1:5], Value: memory[0:8]}, {Key: memory[0:1], Gone: true}, {Key: memory[7:8], Value: memory[7:8]}}
	want := map[string]string{"b": "cd", "bcde": "abcdefgh", "h": "h"}
	records := []api.Record{{Kind: api.Committed, Changes: changes, Root: r.quill().root(want)}}
	l, n, e := audit.Replay(r.book, entries, append(records, records...))
	if e != api.OK || n != 2 || showEntries(l) != showEntries(listed(want)) || string(memory) != "abcdefgh" {
		t.Fatalf("R3: Replay answers %s, %d, %d; %s", showEntries(l), n, e, memory)
	}
	fill(memory, '#')
	if showEntries(l) != showEntries(listed(want)) {
		t.Errorf("R3: what was handed in is kept: %s", showEntries(l))
	}
}

// R4: a list without elements may be nil or not.
func TestNilAndEmptyAreOne(t *testing.T) {
	r := newRig(t, 256, 256)
	empty := map[string]string{"": "e"}
	root := r.quill().root(empty)
	for _, key := range [][]byte{nil, {}, make([]byte, 0, 9)} {
		for _, none := range [][]byte{nil, {}, make([]byte, 0, 9)} {
			records := []api.Record{{Kind: api.Committed, Root: root, Changes: []api.Change{{Key: key, Value: []byte("e")}}}}
			r.leads("R4", nil, records, empty)
			r.leads("R4", []api.Entry{}, records, empty)
			r.leads("R4", []api.Entry{{Key: key, Value: []byte("f")}}, records, empty)
			records[0].Changes = []api.Change{{Key: []byte("a"), Value: none, Gone: true}}
			r.leads("R4", []api.Entry{{Key: key, Value: []byte("e")}}, records, empty)
			records[0].Changes[0].Gone = false
			r.refuses("R4", []api.Entry{{Key: key, Value: []byte("e")}}, records, 0, api.ErrInput)
			r.refuses("R4", []api.Entry{{Key: key, Value: none}}, records, 0, api.ErrOrder)
		}
	}
}

// R5: an answer hangs on what is handed in, not on what the book or another call has been through.
func TestPastsThatDoNotCount(t *testing.T) {
	fresh := newRig(t, 256, 256)
	x := fresh.stranger(0).long()
	used := newRig(t, 256, 256)
	for i := range 50 {
		used.book.Hash([]byte(fmt.Sprint(i)))
		q := used.quill().open().commit(put("a", fmt.Sprint(i)))
		used.log(q.log()+"rubbish", q.reg())
		used.replay(nil, q.records)
		used.replay(listed(q.now()), q.records)
	}
	for range 3 {
		if f, g := used.log(x.log(), x.reg()), fresh.log(x.log(), x.reg()); f != g || f != x.right(0, len(x.frames)) {
			t.Errorf("R5: Log finds %s, and %s", showFinding(f), showFinding(g))
		}
		used.leads("R5", nil, x.records, x.now())
	}
}

// R7: whatever hash was held against a record's root, the book has hashed its string, and all that it leads to; nothing was coded,
// nothing accepted by Replay.
func TestWhatTheBookKnows(t *testing.T) {
	r := newRig(t, 256, 256)
	q := r.stranger(0).long()
	q.commit(put("abc", strings.Repeat("v", 99)), put("abd", strings.Repeat("w", 99)))
	r.leads("26.3", nil, q.records, q.now())
	for _, m := range append(q.maps, nil) {
		blobs, _ := shape.Nodes(r.plain, listed(m))
		for _, b := range append(blobs, api.Blob{Data: []byte{128}}) {
			if !hasHashed(r.book, string(b.Data)) {
				t.Errorf("R7: %.8x was led to, and never hashed", b.Data)
			}
		}
	}
	if _, coded := r.book.Len(); coded != 0 || !r.book.Sound() {
		t.Errorf("R7: %d bodies were coded", coded)
	}
	r = newRig(t, 256, 256)
	r.refuses("26.3", listed(map[string]string{"b": "1"}), q.records, 0, api.ErrReplay)
	if !hasHashed(r.book, string(mustNode(t, r, map[string]string{"b": "1"}))) {
		t.Errorf("R7: the root that is not the record's was never hashed")
	}
}

// mustNode tells the root's node of a map's trie that is one node.
func mustNode(t *testing.T, r *rig, m map[string]string) []byte {
	blobs, e := shape.Nodes(r.plain, listed(m))
	if e != api.OK || len(blobs) != 1 {
		t.Fatalf("14.6: %d nodes, %d", len(blobs), e)
	}
	return blobs[0].Data
}

// Calls may come with one book at one time: each answers the same.
func TestSideBySide(t *testing.T) {
	r := newRig(t, 256, 256)
	q := r.quill().long()
	log := []byte(q.log())
	said := make([]string, 8)
	var all sync.WaitGroup
	for i := range said {
		all.Go(func() {
			for n := range 40 {
				f := audit.Log(r.book, log[:n*len(log)/39], q.reg())
				l, k, e := audit.Replay(r.book, nil, q.records[:n%len(q.records)])
				said[i] += fmt.Sprint(showFinding(f), showEntries(l), k, e)
			}
		})
	}
	all.Wait()
	for i := range said {
		if said[i] != said[0] || !strings.Contains(said[i], showFinding(q.right(0, len(q.frames)))) {
			t.Fatalf("R5: the same was done, and the answer is another")
		}
	}
}
