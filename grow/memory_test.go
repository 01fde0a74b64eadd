package grow_test

import (
	"bytes"
	"fmt"
	"math/rand"
	"slices"
	"sync"
	"testing"

	"cairn/api"
	"cairn/find"
	"cairn/grow"
)

// keeper is a source that tells the memory in which it keeps its nodes.
type keeper map[api.Hash][]byte

func (k keeper) Node(h api.Hash) ([]byte, api.Errno) {
	if b, there := k[h]; there {
		return b, api.OK
	}
	return nil, api.ErrAbsent
}

// kept makes such a source of a shelf's nodes, and tells beside it what each memory holds, spare room too.
func kept(src *shelf) (keeper, map[api.Hash]string) {
	k, was := keeper{}, map[api.Hash]string{}
	for h, b := range src.blobs {
		k[h] = roomy(b)
		was[h] = string(k[h][:cap(k[h])])
	}
	return k, was
}

func (k keeper) is(was map[api.Hash]string) bool {
	for h, b := range k {
		if string(b[:cap(b)]) != was[h] {
			return false
		}
	}
	return len(k) == len(was)
}

// shared writes a mark of its own into each list, spare room too, and tells whether one of them has lost its mark.
func shared(all [][]byte) bool {
	for i, b := range all {
		fill(b, byte(i))
	}
	for i, b := range all {
		if slices.ContainsFunc(b[:cap(b)], func(x byte) bool { return x != byte(i) }) {
			return true
		}
	}
	return false
}

func grove() map[string]string {
	return map[string]string{"": "e", "\x12": "a", "\x12\x34": long, "\x12\x35": "b", "\x12\x35\x67": long + "!", "\x77": "seven", "\x78": "eight", "\x79\x99": "n", unhex(deep[:64]): long, unhex(deep[:62]): "up"}
}

// scene is a stage over a keeper, with some changes behind it and all hashes that it knows.
func scene(t *testing.T) (r *rig, s *grow.Stage, k keeper, was map[api.Hash]string, root api.Hash, hs []api.Hash) {
	t.Helper()
	r = newRig(t, 256)
	root = r.plant(grove())
	k, was = kept(r.src)
	s, _ = grow.New(k, r.book)
	changes := []api.Change{put("\x12", long), gone("\x77"), put("\x12\x35\x68", "new"), put("new", long), put("\x79", long+"?"), gone(unhex(deep[:62]))}
	next, e := s.Apply(root, changes)
	if want, _ := r.model.apply(root, changes); e != api.OK || next != want || s.Len() != len(r.model.staged) {
		t.Fatalf("12.6: %x, %d", next, e)
	}
	for h := range r.model.staged {
		hs = append(hs, h)
	}
	for h := range k {
		hs = append(hs, h)
	}
	slices.SortFunc(hs, func(a, b api.Hash) int { return bytes.Compare(a[:], b[:]) })
	return r, s, k, was, next, hs
}

// handOut tells all that a stage hands out.
func handOut(s *grow.Stage, root api.Hash, hs []api.Hash) ([][]byte, []api.Blob) {
	var nodes [][]byte
	for _, h := range hs {
		b, _ := s.Node(h)
		nodes = append(nodes, b)
	}
	l, _ := s.Reach(root)
	return nodes, l
}

func datas(l []api.Blob) [][]byte {
	var out [][]byte
	for _, b := range l {
		out = append(out, b.Data)
	}
	return out
}

func TestWhatIsHandedOutIsNew(t *testing.T) {
	_, s, k, was, root, hs := scene(t)
	if !k.is(was) {
		t.Errorf("R3: what the source told is changed")
	}
	nodes, reached := handOut(s, root, hs)
	again, reachedAgain := handOut(s, root, hs)
	said := fmt.Sprintf("%x %x", nodes, reached)
	if fmt.Sprintf("%x %x", again, reachedAgain) != said || len(reached) < 5 {
		t.Errorf("R5: a call that is done again answers otherwise")
	}
	clear(reached[:cap(reached)])
	if fmt.Sprintf("%x %x", again, reachedAgain) != said {
		t.Errorf("R3: two answers of Reach are one list")
	}
	_, reached = handOut(s, root, hs)
	if shared(slices.Concat(nodes, again, datas(reached), datas(reachedAgain))) {
		t.Errorf("R3: two answers share memory")
	}
	if !k.is(was) {
		t.Errorf("R3: an answer shares memory with what the source told")
	}
	nodes, reached = handOut(s, root, hs)
	if fmt.Sprintf("%x %x", nodes, reached) != said {
		t.Errorf("R3: whoever writes into an answer changes what the stage holds")
	}
}

// What was staged and handed out stays as it was, whatever the source does with its memory then.
func TestNothingIsKeptOfTheSource(t *testing.T) {
	r, s, k, _, root, hs := scene(t)
	nodes, reached := handOut(s, root, hs)
	said := fmt.Sprintf("%x %x", nodes, reached)
	for _, b := range k {
		fill(b, 0xdd)
	}
	if fmt.Sprintf("%x %x", nodes, reached) != said {
		t.Errorf("R3: an answer shares memory with what the source told")
	}
	for h, b := range r.model.staged {
		if got, e := s.Node(h); string(got) != b || e != api.OK {
			t.Errorf("R3: what is staged shares memory with what the source told")
		}
	}
	if _, e := s.Put(root, []byte("\x12\x34"), []byte("v")); e != api.ErrNode {
		t.Errorf("12.4: a node that was read is kept: %d", e)
	}
}

// meddler is a source that writes into all that was handed in, while the call is on its way.
type meddler struct {
	*shelf
	changes []api.Change
}

func (m *meddler) Node(h api.Hash) ([]byte, api.Errno) {
	for i := range m.changes {
		fill(m.changes[i].Key, 0x66)
		fill(m.changes[i].Value, 0x66)
		m.changes[i] = api.Change{}
	}
	return m.shelf.Node(h)
}

func TestWhatIsHandedInIsNotKept(t *testing.T) {
	for _, changes := range [][]api.Change{{put("\x12", long)}, {gone("\x12")}, {put("\x12\x34", "w"), gone("\x77"), put("\x12\x35\x67\x89", long)}} {
		r := newRig(t, 256)
		root := r.plant(grove())
		handed, _ := handedIn(changes)
		s, _ := grow.New(&meddler{r.src, handed}, r.book)
		got, e := s.Apply(root, handed)
		if want, _ := r.trie(changed(grove(), changes...)); got != want || e != api.OK {
			t.Errorf("R3, R5: %s: %x, %d", tell(changes), got, e)
		}
		handed, _ = handedIn(changes[:1])
		c := handed[0]
		s, _ = grow.New(&meddler{r.src, []api.Change{{Key: c.Key, Value: c.Value}}}, r.book)
		if c.Gone {
			got, e = s.Delete(root, c.Key)
		} else {
			got, e = s.Put(root, c.Key, c.Value)
		}
		if want, _ := r.trie(changed(grove(), changes[0])); got != want || e != api.OK {
			t.Errorf("R3, R5: %s: %x, %d", tell(changes[:1]), got, e)
		}
	}
}

func TestNilAndEmptyAreOne(t *testing.T) {
	r := newRig(t, 256)
	root := r.plant(grove())
	want, _ := r.trie(changed(grove(), put("", long)))
	without, _ := r.trie(changed(grove(), gone("")))
	for _, none := range [][]byte{nil, {}, make([]byte, 0, 9)} {
		if got, e := r.stage.Put(root, none, []byte(long)); got != want || e != api.OK {
			t.Errorf("R4: Put: %x, %d", got, e)
		}
		if got, e := r.stage.Delete(root, none); got != without || e != api.OK {
			t.Errorf("R4: Delete: %x, %d", got, e)
		}
		if got, e := r.stage.Apply(root, []api.Change{{Key: none, Value: none, Gone: true}}); got != without || e != api.OK {
			t.Errorf("R4: Apply: %x, %d", got, e)
		}
		if got, e := r.stage.Put(root, []byte("k"), none); got != (api.Hash{}) || e != api.ErrInput {
			t.Errorf("R4: Put of no value: %x, %d", got, e)
		}
		h := hashOf(256, "")
		s, _ := grow.New(keeper{h: none}, r.book)
		if got, e := s.Put(h, nil, []byte("v")); got != (api.Hash{}) || e != api.ErrNode {
			t.Errorf("R4: a source that tells no byte: %x, %d", got, e)
		}
	}
	for _, none := range [][]api.Change{nil, {}, make([]api.Change, 0, 3)} {
		if got, e := r.stage.Apply(root, none); got != root || e != api.OK {
			t.Errorf("R4: Apply of nothing: %x, %d", got, e)
		}
	}
}

// Two stages over one source and one book share nothing.
func TestTwoStages(t *testing.T) {
	r := newRig(t, 256)
	root := r.plant(grove())
	other, _ := grow.New(r.src, r.book)
	next := r.done("R5", root, 1, 2, put("new", long))
	if other.Len() != 0 {
		t.Errorf("R5: %d are staged on the other", other.Len())
	}
	if b, e := other.Node(next); len(b) != 0 || e != api.ErrAbsent {
		t.Errorf("R5: the other has %x, %d", b, e)
	}
	if got, e := other.Put(root, []byte("new"), []byte(long)); got != next || e != api.OK || other.Len() != 2 {
		t.Errorf("R5: on the other: %x, %d, %d staged", got, e, other.Len())
	}
	r.same("R5")
}

// A call answers the same whatever the book has hashed and coded, and whatever has been refused.
func TestPastsThatDoNotCount(t *testing.T) {
	r := newRig(t, 256)
	root := r.plant(grove())
	want := r.done("R5", root, 1, 2, put("new", long))
	r.anew()
	for _, s := range []string{"", "\x80", "anything", long} {
		r.book.Hash([]byte(s))
		r.book.Code([]byte(s))
		r.book.Accept([]byte(s+"?"), api.Hash{})
	}
	for _, c := range wrongChanges() {
		r.refused("R5", root, api.ErrInput, 0, c)
	}
	r.refused("R5", api.Hash{9}, api.ErrAbsent, 1, put("new", long))
	if got := r.done("R5", root, 1, 2, put("new", long)); got != want {
		t.Errorf("R5: %x, not %x", got, want)
	}
}

// The book has hashed all that is staged and all that was read, and coded nothing.
func TestWhatTheBookKnows(t *testing.T) {
	rnd := rand.New(rand.NewSource(126))
	r := newRig(t, 256)
	entries := grove()
	root := r.plant(entries)
	for range 60 {
		c := someChange(rnd, entries)
		entries = changed(entries, c)
		next, e := r.do("R7", root, c)
		if e != api.OK {
			t.Fatalf("R7: %d", e)
		}
		hashed, coded := r.book.Len()
		for _, h := range r.model.asked {
			r.book.Hash([]byte(r.src.blobs[h]))
		}
		for _, b := range r.model.staged {
			r.book.Hash([]byte(b))
		}
		if now, _ := r.book.Len(); now != hashed || coded != 0 {
			t.Fatalf("R7: %d strings were not hashed, %d are coded", now-hashed, coded)
		}
		root = next
	}
}

// Stages of several goroutines over one source and one book come to the same.
func TestSideBySide(t *testing.T) {
	r := newRig(t, 256)
	root := r.plant(grove())
	k, was := kept(r.src)
	changes := []api.Change{put("\x12", long), gone("\x77"), put("\x12\x35\x68", "new"), gone(unhex(deep[:62]))}
	said := make([]string, 8)
	var all sync.WaitGroup
	for i := range said {
		all.Go(func() {
			s, _ := grow.New(k, r.book)
			for range 10 {
				h, e := s.Apply(root, changes)
				l, f := s.Reach(h)
				v, found, g := find.Get(s, r.book, h, []byte("\x12"))
				said[i] += fmt.Sprintf("%x %d %x %d %d %s %v %d\n", h, e, l, f, s.Len(), v, found, g)
			}
		})
	}
	all.Wait()
	for i := range said {
		if said[i] != said[0] {
			t.Fatalf("R5: two who ask the same at the same time are told otherwise")
		}
	}
	if !k.is(was) {
		t.Errorf("R3: what the source told is changed")
	}
}

// breaker is a source that panics: that is none of this layer's errors, but the stage is as it was.
type breaker struct {
	*shelf
	at api.Hash
}

func (b breaker) Node(h api.Hash) ([]byte, api.Errno) {
	if h == b.at {
		panic("broken")
	}
	return b.shelf.Node(h)
}

func TestSourceThatPanics(t *testing.T) {
	r := newRig(t, 256)
	root, key, encodings := chain(r)
	s, _ := grow.New(breaker{r.src, hashOf(256, encodings[4])}, r.book)
	func() {
		defer func() {
			if recover() != "broken" {
				t.Errorf("a panic of the source is told as something else")
			}
		}()
		s.Apply(root, []api.Change{put("\x99", long), put(key, "v")})
	}()
	if s.Len() != 0 {
		t.Errorf("12.6: %d are staged", s.Len())
	}
}
