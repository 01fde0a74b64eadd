package diff_test

import (
	"fmt"
	"slices"
	"strings"
	"sync"
	"testing"

	"cairn/api"
	"cairn/diff"
)

// keeper is a source that tells the memory in which it keeps its nodes.
type keeper map[api.Hash][]byte

func (k keeper) Node(h api.Hash) ([]byte, api.Errno) {
	if b, there := k[h]; there {
		return b, api.OK
	}
	return nil, api.ErrAbsent
}

// kept makes such a source of a shelf's nodes, and tells beside it what each memory holds, spare room too.
func kept(src *shelf) (keeper, map[api.Hash]string) {
	k, was := keeper{}, map[api.Hash]string{}
	for h, b := range src.blobs {
		k[h] = roomy(b)
		was[h] = whole(k[h])
	}
	return k, was
}

func (k keeper) is(was map[api.Hash]string) bool {
	for h, b := range k {
		if whole(b) != was[h] {
			return false
		}
	}
	return len(k) == len(was)
}

// shared writes a mark of its own into each list, spare room too, and tells whether one of them has lost its mark. A mark is one
// byte: so it is done twice, and no two lists have the same mark both times.
func shared(all [][]byte) bool {
	for _, marks := range []int{251, 241} {
		for i, b := range all {
			fill(b, byte(i%marks))
		}
		for i, b := range all {
			if slices.ContainsFunc(b[:cap(b)], func(x byte) bool { return x != byte(i%marks) }) {
				return true
			}
		}
	}
	return false
}

// scene is the grove and what came of it, over a keeper.
func scene(t *testing.T) (r *rig, k keeper, was map[api.Hash]string, old, now api.Hash) {
	t.Helper()
	r = newRig(t, 256)
	old = r.plant(grove())
	now = r.plant(with(grove(), "", "", "\x12", long+"3", "\x12\x35\x67", "whole now", "\x77", "7", "\x77\x01", long, "\x79\x99", "", keyOf(deep[:64]), strings.Repeat("up", 99)))
	k, was = kept(r.src)
	return r, k, was, old, now
}

// everyAnswer is what all calls of the layer answer.
type everyAnswer struct {
	ds      [][]api.Delta
	changes [][]api.Change
}

func answers(src api.Source, r *rig, old, now api.Hash) everyAnswer {
	var out everyAnswer
	for _, roots := range [][2]api.Hash{{old, now}, {now, old}, {r.empty(), now}, {old, r.empty()}} {
		ds, e := diff.Diff(src, r.book, roots[0], roots[1])
		if e != api.OK || len(ds) == 0 {
			r.t.Errorf("24.1: %d differences, %d", len(ds), e)
		}
		out.ds = append(out.ds, ds, diff.Back(ds))
		out.changes = append(out.changes, diff.Changes(ds), diff.Changes(diff.Back(ds)))
	}
	return out
}

// lists tells all lists of bytes of some answers.
func (a everyAnswer) lists() [][]byte {
	var out [][]byte
	for _, ds := range a.ds {
		for _, d := range ds {
			out = append(out, d.Key, d.Old, d.New)
		}
	}
	for _, cs := range a.changes {
		for _, c := range cs {
			out = append(out, c.Key, c.Value)
		}
	}
	return out
}

func said(a everyAnswer) string {
	out := ""
	for _, ds := range a.ds {
		for _, d := range ds {
			out += fmt.Sprintf("%x %x %x %v %v\n", d.Key, d.Old, d.New, d.Was, d.Is)
		}
	}
	for _, cs := range a.changes {
		for _, c := range cs {
			out += fmt.Sprintf("%x %x %v\n", c.Key, c.Value, c.Gone)
		}
	}
	return out
}

func TestWhatIsHandedOutIsNew(t *testing.T) {
	r, k, was, old, now := scene(t)
	first, second := answers(k, r, old, now), answers(k, r, old, now)
	text := said(second)
	if said(first) != text {
		t.Errorf("R5: calls that are done again answer otherwise")
	}
	if !k.is(was) {
		t.Errorf("R3: what the source told is changed")
	}
	for i := range first.ds {
		clear(first.ds[i][:cap(first.ds[i])])
		clear(first.changes[i][:cap(first.changes[i])])
	}
	if said(second) != text {
		t.Errorf("R3: two answers are one list")
	}
	first = answers(k, r, old, now)
	if shared(slices.Concat(first.lists(), second.lists())) {
		t.Errorf("R3: two answers, or two lists of one, share memory")
	}
	if !k.is(was) {
		t.Errorf("R3: an answer shares memory with what the source told")
	}
	if said(answers(k, r, old, now)) != text {
		t.Errorf("R3: whoever writes into an answer changes the next one")
	}
	if !r.book.Sound() {
		t.Errorf("R3: the book is not sound")
	}
}

// What was handed out stays as it was, whatever the source does with its memory then; and no node is kept from call to call.
func TestNothingIsKeptOfTheSource(t *testing.T) {
	r, k, _, old, now := scene(t)
	out := answers(k, r, old, now)
	text := said(out)
	for _, b := range k {
		fill(b, 0xdd)
	}
	if said(out) != text {
		t.Errorf("R3: an answer shares memory with what the source told")
	}
	if ds, e := diff.Diff(k, r.book, old, now); len(ds) != 0 || e != api.ErrNode {
		t.Errorf("24.1: a node that was read is kept: %d, %d", len(ds), e)
	}
}

// A source whose nodes are no bytes at all.
func TestNilAndEmptyAreOne(t *testing.T) {
	r := newRig(t, 256)
	h := hashOf(256, "")
	for _, none := range [][]byte{nil, {}, make([]byte, 0, 9)} {
		if ds, e := diff.Diff(keeper{h: none}, r.book, h, r.empty()); len(ds) != 0 || e != api.ErrNode {
			t.Errorf("R4: %d, %d", len(ds), e)
		}
	}
}

// A call answers the same whatever the book has hashed and coded, and whatever has been refused.
func TestPastsThatDoNotCount(t *testing.T) {
	r, k, _, old, now := scene(t)
	text := said(answers(k, r, old, now))
	for _, s := range []string{"", "\x80", "anything", long} {
		r.book.Hash([]byte(s))
		r.book.Code([]byte(s))
		r.book.Accept([]byte(s+"?"), api.Hash{})
	}
	r.refused("R5", old, api.Hash{9}, api.ErrAbsent, 2)
	r.refused("R5", api.Hash{9}, now, api.ErrAbsent, 1)
	diff.Diff(nil, r.book, old, now)
	if said(answers(k, r, old, now)) != text {
		t.Errorf("R5: an answer hangs on what was before")
	}
}

// The book has hashed all that was read, and coded nothing.
func TestWhatTheBookKnows(t *testing.T) {
	for i := range 3 {
		r, _, _, old, now := scene(t)
		old = []api.Hash{old, r.empty(), old}[i]
		now = []api.Hash{now, now, old}[i]
		r.diff("R7", old, now)
		hashed, coded := r.book.Len()
		r.book.Hash([]byte("\x80"))
		for _, h := range r.src.asked {
			r.book.Hash([]byte(r.src.blobs[h]))
		}
		if after, _ := r.book.Len(); after != hashed || coded != 0 || hashed > len(r.src.asked)+1 {
			t.Errorf("R7: %d strings were not hashed, %d are coded; %d are hashed", after-hashed, coded, hashed)
		}
	}
}

// Bytes that were read wrong are known to the book too: they were held against a hash.
func TestTheBookKnowsWhatWasWrong(t *testing.T) {
	r, _, _, old, now := scene(t)
	r.src.blobs[now] = "other bytes"
	r.refused("R7", old, now, api.ErrNode, 2)
	hashed, _ := r.book.Len()
	r.book.Hash([]byte("other bytes"))
	if after, _ := r.book.Len(); after != hashed {
		t.Errorf("R7: what the source told was held against a hash that the book has not made")
	}
}

// Calls of several goroutines over one source and one book come to the same.
func TestCallsAtOneTime(t *testing.T) {
	r, k, was, old, now := scene(t)
	texts := make([]string, 8)
	var all sync.WaitGroup
	for i := range texts {
		all.Go(func() {
			for range 20 {
				texts[i] = said(answers(k, r, old, now))
			}
		})
	}
	all.Wait()
	for i := range texts {
		if texts[i] != texts[0] {
			t.Fatalf("R5: two who ask the same at the same time are told otherwise")
		}
	}
	if !k.is(was) {
		t.Errorf("R3: what the source told is changed")
	}
}

// An answer is zero beside an error, whatever was met ahead of it.
func TestZeroBesideAnError(t *testing.T) {
	r, _, _, old, now := scene(t)
	r.diff("R2", old, now)
	for _, h := range slices.Clone(r.src.asked) {
		b := r.src.blobs[h]
		r.src.blobs[h] = "wrong"
		if ds, e := diff.Diff(r.src, r.book, old, now); len(ds) != 0 || e != api.ErrNode {
			t.Errorf("R2: %d, %d", len(ds), e)
		}
		r.src.blobs[h] = b
	}
}

// asker is a source that does a Diff of its own while it is asked.
type asker struct {
	*shelf
	r        *rig
	old, now api.Hash
	told     []string
}

func (a *asker) Node(h api.Hash) ([]byte, api.Errno) {
	ds, e := diff.Diff(a.shelf, a.r.book, a.now, a.old)
	a.told = append(a.told, fmt.Sprint(deltas(ds), e))
	return a.shelf.Node(h)
}

// Two calls share nothing, though the one is done while the other is on its way.
func TestOneCallWithinAnother(t *testing.T) {
	r, _, _, old, now := scene(t)
	want, _ := r.both("R5", old, now)
	a := &asker{shelf: r.src, r: r, old: old, now: now}
	ds, e := diff.Diff(a, r.book, old, now)
	if !slices.Equal(deltas(ds), want) || e != api.OK {
		t.Errorf("R5: %v, %d", deltas(ds), e)
	}
	for _, told := range a.told {
		if told != fmt.Sprint(turned(want), api.OK) {
			t.Errorf("R5: the call within tells %s", told)
		}
	}
}
