package seal_test

import (
	"fmt"
	"math/rand"
	"slices"
	"strconv"
	"strings"
	"sync"
	"testing"

	"cairn/api"
	"cairn/digest"
	"cairn/media"
	"cairn/seal"
)

// heap is all memory that some calls were handed, and have handed out.
type heap struct {
	bytes   [][]byte
	changes [][]api.Change
	records [][]api.Record
}

// batch adds what changes lead to, spare room too.
func (h *heap) batch(l []api.Change) {
	h.changes = append(h.changes, l)
	for _, c := range l[:cap(l)] {
		h.bytes = append(h.bytes, c.Key, c.Value)
	}
}

// list adds what records lead to, spare room too.
func (h *heap) list(l []api.Record) {
	h.records = append(h.records, l)
	for _, r := range l[:cap(l)] {
		h.batch(r.Changes)
	}
}

// shares writes a mark of its own into each list, spare room too, and tells whether one of them has lost its mark. The mark of
// bytes is one byte: so it is done twice, and no two lists have the same mark both times.
func (h *heap) shares() bool {
	lost := false
	for _, marks := range []int{251, 241} {
		for i, b := range h.bytes {
			fill(b, byte(i%marks))
		}
		for i, b := range h.bytes {
			lost = lost || slices.ContainsFunc(b[:cap(b)], func(x byte) bool { return x != byte(i%marks) })
		}
	}
	for i, l := range h.changes {
		for k := range l[:cap(l)] {
			l[:cap(l)][k] = api.Change{Key: []byte(strconv.Itoa(i))}
		}
	}
	for i, l := range h.changes {
		lost = lost || slices.ContainsFunc(l[:cap(l)], func(c api.Change) bool { return string(c.Key) != strconv.Itoa(i) })
	}
	for i, l := range h.records {
		for k := range l[:cap(l)] {
			l[:cap(l)][k] = api.Record{Kind: i}
		}
	}
	for i, l := range h.records {
		lost = lost || slices.ContainsFunc(l[:cap(l)], func(r api.Record) bool { return r.Kind != i })
	}
	return lost
}

func TestTheRigSeesWhatIsShared(t *testing.T) {
	b := []byte("some bytes")
	l := []api.Change{{Key: b}}
	records := make([]api.Record, 3)
	for i, h := range []*heap{
		{bytes: [][]byte{b[:3], b[5:]}},
		{bytes: [][]byte{b[:0], b}},
		{changes: [][]api.Change{l, l[:0]}},
		{records: [][]api.Record{records[:1], records[2:]}},
	} {
		if !h.shares() {
			t.Errorf("heap %d is said to share nothing", i)
		}
	}
	if (&heap{bytes: [][]byte{b[:3:3], b[3:]}, changes: [][]api.Change{l}, records: [][]api.Record{records}}).shares() {
		t.Errorf("what is apart is said to share")
	}
}

// manyBatches tells batches of all lengths.
func manyBatches() [][]api.Change {
	return [][]api.Change{
		nil, {}, {put("a", "1")}, {gone("")}, {put("", "v"), gone("k"), put("k", strings.Repeat("v", 256))}, greatest(),
		slices.Repeat([]api.Change{put("k", "v")}, 5), slices.Repeat([]api.Change{gone("k")}, 17),
	}
}

// What is handed to Commit stays as it was, and whoever has kept it loses it (the rig spoils it): what was written does not change.
func TestCommitKeepsNothing(t *testing.T) {
	r := lay(t, 60000, 256)
	who := r.opens()
	var want []string
	for i, changes := range manyBatches() {
		want = append(want, show(committedBehind(r.logs[who].Head(), root(i), changes...)))
		r.commits(who, root(i), changes...)
		for _, wrong := range wrongBatches()[:12] {
			r.commit(who, root(i), wrong...)
		}
	}
	l, e := r.history(who)
	if e != api.OK || len(l) != len(want)+1 || shown(l[1:]) != strings.Join(want, "\n") {
		t.Errorf("R3: what was committed hangs on what became of the batches")
	}
}

// At each error too: without room, over a crash, of a session that has failed.
func TestRefusedBatchesStay(t *testing.T) {
	for kind := range api.Choices {
		for at := range 5 {
			for _, room := range []int{2 * openedFrame, 400, 40000} {
				r := lay(t, room, 256)
				who := r.opens()
				r.commits(who, root(1))
				for _, changes := range manyBatches() {
					r.choose(honest(at, choice(kind, at+3))...)
					r.commit(who, root(2), changes...)
				}
				r.up()
				r.open()
			}
		}
	}
}

// Batches that share memory with one another, and changes within one batch: they are read, and no more.
func TestCommitOfSharedBatches(t *testing.T) {
	r := lay(t, 40000, 256)
	l, _, _ := seal.Open(r.d, r.book)
	all := []byte("0123456789")
	changes := []api.Change{{Key: all[:3], Value: all[2:5]}, {Key: all[1:1], Value: all}, {Key: all, Gone: true}}
	for n := range 4 {
		if _, e := l.Commit(root(n), changes[:n]); e != api.OK {
			t.Fatalf("20.3: %d", e)
		}
	}
	if string(all) != "0123456789" || string(changes[0].Value) != "234" {
		t.Errorf("R3: what was handed in is changed")
	}
	records, _ := l.History()
	fill(all, 0)
	if got := records[4].Changes; len(got) != 3 || string(got[0].Key) != "012" || string(got[1].Value) != "0123456789" || !got[2].Gone {
		t.Errorf("R3: %v", got)
	}
}

// What History hands out is new memory, each time, and shares none with what was handed in.
func TestHistoryAnswersNewMemory(t *testing.T) {
	r := lay(t, 60000, 256)
	who := r.opens()
	h := &heap{}
	for i, changes := range manyBatches() {
		in := handIn(changes)
		if _, e := r.logs[who].Commit(root(i), in.changes); e != api.OK {
			t.Fatalf("20.3: %d", e)
		}
		h.batch(in.changes)
		r.models[who].commit(root(i), changes)
	}
	r.look()
	one, _ := r.history(who)
	want := shown(one)
	two, _ := r.history(who)
	h.list(one)
	h.list(two)
	if h.shares() {
		t.Errorf("R3: two answers share memory, or one with what was handed in")
	}
	r.look() // neither the device nor the book hangs on what was handed out
	if three, e := r.history(who); e != api.OK || shown(three) != want {
		t.Errorf("R3: the history hangs on what became of an earlier answer")
	}
	r.wantsOpen("behind it all", r.logs[who].Head().Count+1, r.logs[who].Head().Seq, "reg read append setreg")
}

// Whoever appends to what was handed out writes into nothing else.
func TestHistoriesMayGrow(t *testing.T) {
	r := lay(t, 60000, 256)
	who := r.opens()
	for i, changes := range manyBatches() {
		r.commits(who, root(i), changes...)
	}
	l, _ := r.history(who)
	want := shown(l)
	for _, x := range l {
		for _, c := range x.Changes {
			_ = append(c.Key, "beyond its end"...)
			_ = append(c.Value, "beyond its end"...)
		}
		_ = append(x.Changes, put("beyond", "its end"))
	}
	_ = append(l[:3:3], api.Record{})
	if shown(l) != want {
		t.Errorf("R3: records change as others are appended to")
	}
}

// What was handed out stays as it was, whatever the session and the device do then.
func TestWhatWasHandedOutStays(t *testing.T) {
	r := lay(t, 800, 256)
	who := r.opens()
	r.commits(who, root(1), put("key", "value"))
	r.commits(who, root(2), put("key", "other"), gone("k"))
	l, _ := r.history(who)
	want := shown(l)
	for i := range 20 {
		r.commits(who, root(i), put("new", "things"))
	}
	r.aside("the log is lost", func(d *media.Device) {
		d.Cut(0)
		d.Append(make([]byte, 700))
	})
	r.history(who)
	if shown(l) != want {
		t.Errorf("R3: an answer changes behind the call")
	}
}

// A list without elements may be nil or not.
func TestNilAndEmptyAreOne(t *testing.T) {
	var heads []api.Head
	for _, changes := range [][]api.Change{nil, {}, make([]api.Change, 0, 9)} {
		r := lay(t, 1000, 256)
		heads = append(heads, r.commits(r.opens(), root(1), changes...))
	}
	for _, c := range []api.Change{{Key: nil, Value: []byte("v")}, {Key: []byte{}, Value: []byte("v")}, {Key: make([]byte, 0, 5), Value: []byte("v")}} {
		r := lay(t, 1000, 256)
		heads = append(heads, r.commits(r.opens(), root(1), c))
	}
	for _, c := range []api.Change{{Key: []byte("k"), Gone: true}, {Key: []byte("k"), Value: []byte{}, Gone: true}, {Key: []byte("k"), Value: make([]byte, 0, 5), Gone: true}} {
		r := lay(t, 1000, 256)
		heads = append(heads, r.commits(r.opens(), root(1), c))
	}
	for i := range heads {
		if heads[i] != heads[i-i%3] {
			t.Errorf("R4: %s and %s", brief(heads[i]), brief(heads[i-i%3]))
		}
	}
}

// What a session answers hangs on what was done to it, to its device and to its book alone.
func TestSideBySide(t *testing.T) {
	said := make([]string, 8)
	var all sync.WaitGroup
	for i := range said {
		all.Go(func() {
			d, _ := media.New(5, 900)
			book, _ := digest.New(12, 9, make([]byte, 32))
			rnd := rand.New(rand.NewSource(7))
			var logs []*seal.Log
			for step := range 200 {
				if rnd.Intn(3) == 0 {
					d.Choose(choice(rnd.Intn(api.Choices), rnd.Intn(50)), choice(rnd.Intn(api.Choices), rnd.Intn(50)))
				}
				l, h, e := seal.Open(d, book)
				if e == api.OK {
					logs = append(logs, l)
				}
				said[i] += fmt.Sprint(h, e)
				for _, l := range logs[max(0, len(logs)-2):] {
					h, e := l.Commit(root(step), someChanges(rnd))
					records, f := l.History()
					said[i] += fmt.Sprint(h, e, shown(records), f, l.Check(), l.Head())
				}
				d.Up()
				if e == api.ErrStale {
					d, _ = media.New(5, 900)
				}
			}
			said[i] += fmt.Sprint(d.Media(), d.Accesses(), book.Twins(), book.Forgeries())
		})
	}
	all.Wait()
	for i := range said {
		if said[i] != said[0] {
			t.Fatalf("R5: two sessions that were done the same to answer otherwise")
		}
	}
}

// Sessions at devices of their own may work with one book at one time.
func TestOneBookAtOneTime(t *testing.T) {
	book, _ := digest.New(256, 256, make([]byte, 32))
	heads := make([]api.Head, 8)
	var all sync.WaitGroup
	for i := range heads {
		all.Go(func() {
			d, _ := media.New(5, 900)
			l, _, _ := seal.Open(d, book)
			for step := range 50 {
				l.Commit(root(step), []api.Change{put("k", "v")})
				l.Check()
				l.History()
			}
			heads[i] = l.Head()
		})
	}
	all.Wait()
	for _, h := range heads {
		if h != heads[0] || h.Seq != 50 || !book.Sound() {
			t.Errorf("R5: %s and %s", brief(h), brief(heads[0]))
		}
	}
}
