package sweep_test

import (
	"fmt"
	"math/rand"
	"slices"
	"sync"
	"testing"

	"cairn/api"
	"cairn/digest"
	"cairn/hstore"
	"cairn/media"
	"cairn/sweep"
)

// keeper is a source that tells the memory in which it keeps its nodes.
type keeper map[api.Hash][]byte

func (k keeper) Node(h api.Hash) ([]byte, api.Errno) {
	if b, there := k[h]; there {
		return b, api.OK
	}
	return nil, api.ErrNode
}

// kept makes such a source of a shelf's nodes, and tells beside it what each memory holds, spare room too.
func kept(src *shelf) (keeper, map[api.Hash]string) {
	k, was := keeper{}, map[api.Hash]string{}
	for h, b := range src.blobs {
		k[h] = append([]byte(b), 7, 201, 0, 32, 255)[:len(b)]
		was[h] = whole(k[h])
	}
	return k, was
}

func (k keeper) is(was map[api.Hash]string) bool {
	for h, b := range k {
		if whole(b) != was[h] {
			return false
		}
	}
	return len(k) == len(was)
}

// shared writes a mark of its own into each list, spare room too, and tells whether one of them has lost its mark.
func shared(all [][]api.Hash) bool {
	for i, l := range all {
		fillHashes(l, byte(i))
	}
	for i, l := range all {
		if !isAll(l, byte(i)) {
			return true
		}
	}
	return false
}

func TestTheRigSeesWhatIsShared(t *testing.T) {
	l := make([]api.Hash, 9)
	for _, all := range [][][]api.Hash{{l, l}, {l[:2], l[3:]}, {l[:0], l}, {l[:3:3], l[2:]}} {
		if !shared(all) {
			t.Errorf("what is shared is said to be apart")
		}
	}
	if shared([][]api.Hash{l[:3:3], l[3:], nil, {}}) {
		t.Errorf("what is apart is said to be shared")
	}
}

// Rows of roots: those of the garden, and of each length.
func manyRoots(g map[string]api.Hash) [][]api.Hash {
	out := [][]api.Hash{nil, {}, {emptyRoot(256)}}
	for _, c := range rows {
		g["none"] = emptyRoot(256)
		out = append(out, byNames(g, c.roots))
	}
	return out
}

// What Mark hands out is new memory, each time: it shares none with the roots, with what the source told, or with another answer.
func TestMarkAnswersNewMemory(t *testing.T) {
	s := newStand(t, 256)
	g := garden(s)
	k, was := kept(s.src)
	var all [][]api.Hash
	var said []string
	for range 3 {
		for i, roots := range manyRoots(g) {
			in := append(slices.Clone(roots), mark(1), mark(2))[:len(roots)]
			l, e := sweep.Mark(k, s.book, in...)
			if e != api.OK {
				t.Fatalf("21.1: %d", e)
			}
			all = append(all, l, in)
			if said = append(said, fmt.Sprintf("%x", l)); said[len(said)-1] != said[i] {
				t.Errorf("R5: a call that is done again answers otherwise")
			}
		}
	}
	if !k.is(was) {
		t.Errorf("R3: what the source told is changed")
	}
	if shared(all) {
		t.Errorf("R3: two answers share memory, or one with what was handed in")
	}
	if !k.is(was) {
		t.Errorf("R3: an answer shares memory with what the source told")
	}
	for i, roots := range manyRoots(g) {
		if l, _ := sweep.Mark(k, s.book, roots...); fmt.Sprintf("%x", l) != said[i] {
			t.Errorf("R3: whoever writes into an answer changes the next one")
		}
	}
}

// What was handed out stays as it was, whatever the source does with its memory then; and nothing is kept from call to call.
func TestWhatWasHandedOutStays(t *testing.T) {
	s := newStand(t, 256)
	g := garden(s)
	k, _ := kept(s.src)
	l, e := sweep.Mark(k, s.book, g["top"])
	want := rising(byNames(g, "top over mid left fork low right"))
	for _, b := range k {
		fill(b, 0xdd)
	}
	if e != api.OK || !slices.Equal(l, want) {
		t.Errorf("R3: an answer shares memory with what the source told")
	}
	if l, e := sweep.Mark(k, s.book, g["top"]); e != api.ErrNode || len(l) != 0 {
		t.Errorf("21.1: a node that was read is kept: %d", e)
	}
}

// A source may use the memory of the roots, in which they were handed in, as it is asked: they count as they were.
func TestRootsThatChangeOnTheWay(t *testing.T) {
	s := newStand(t, 256)
	g := garden(s)
	roots := byNames(g, "left over mid left low")
	want, read, _ := s.mark("as they were", roots...)
	in := append(slices.Clone(roots), mark(1))[:len(roots)]
	s.src.aside = func() { fillHashes(in, 0x77) }
	s.src.asked = nil
	if l, e := sweep.Mark(s.src, s.book, in...); e != api.OK || !slices.Equal(l, want) || !slices.Equal(s.src.asked, read) {
		t.Errorf("R3: %.3x, %d, with %.3x read", l, e, s.src.asked)
	}
	if !isAll(in, 0x77) {
		t.Errorf("R3: the roots' memory is written to")
	}
}

// Whoever appends to an answer writes into nothing else.
func TestAnswersMayGrow(t *testing.T) {
	s := newStand(t, 256)
	g := garden(s)
	one, _ := sweep.Mark(s.src, s.book, g["fork"])
	two, _ := sweep.Mark(s.src, s.book, g["over"])
	_ = append(one, mark(1), mark(2))
	if !slices.Equal(two, rising(byNames(g, "over fork low right"))) {
		t.Errorf("R3: an answer changes as another one is appended to")
	}
}

// Roots and keep may be one list, or lie within one another: they are read, and no more. (That they stay, and are not kept, the rig looks at at every sweep.)
func TestSweepOfSharedLists(t *testing.T) {
	o := layOrchard(t, 256, 256)
	all := []api.Hash{o.two.root, o.one.root, key(0x70)}
	was := slices.Clone(all)
	got, e := sweep.Sweep(o.d, o.s, o.book, all, all[:1]...)
	if e != api.OK || got.Live != len(o.two.keys) || !slices.Equal(all, was) {
		t.Errorf("R3: %+v, %d", got, e)
	}
	fillHashes(all, 0x66)
	o.has("21.4", append([]api.Hash{o.one.root, key(0x70)}, o.two.keys...)...)
	got, e = sweep.Sweep(o.d, o.s, o.book, was[:2], was[:2]...)
	if e != api.ErrNode || got != (api.Swept{}) || was[2] != key(0x70) {
		t.Errorf("21.6: the first's nodes are gone: %+v, %d", got, e)
	}
}

// A list without elements may be nil or not.
func TestNilAndEmptyAreOne(t *testing.T) {
	for _, roots := range [][]api.Hash{nil, {}, make([]api.Hash, 0, 5)} {
		s := newStand(t, 256)
		s.tells("R4", nil, roots...)
		for _, keep := range [][]api.Hash{nil, {}, make([]api.Hash, 0, 5)} {
			o := layOrchard(t, 256, 0)
			n := len(o.blobs())
			if got, e := sweep.Sweep(o.d, o.s, o.book, keep, roots...); e != api.OK || got != (api.Swept{Deleted: n}) || len(o.blobs()) != 0 {
				t.Errorf("R4: %+v, %d", got, e)
			}
		}
	}
}

// What a sweep answers hangs on what was done to device, store and book alone.
func TestSideBySide(t *testing.T) {
	one, two := trieOf(t, 256, first()), trieOf(t, 256, second())
	said := make([]string, 8)
	var all sync.WaitGroup
	for i := range said {
		all.Go(func() {
			rnd := rand.New(rand.NewSource(7))
			d, _ := media.New(40, 0)
			book, _ := digest.New(256, 256, make([]byte, 32))
			s, _ := hstore.New(d, book, 5)
			for range 60 {
				for _, b := range slices.Concat(one.blobs, two.blobs) {
					d.Put(b.Key, b.Data)
				}
				d.Choose(someChoices(rnd)...)
				got, e := sweep.Sweep(d, s, book, []api.Hash{one.root, key(1)}, two.root)
				l, f := sweep.Mark(s, book, two.root, one.root)
				said[i] += fmt.Sprint(got, e, l, f, s.Cached(), s.Quarantine(), d.Media())
				d.Up()
			}
			said[i] += fmt.Sprint(d.Accesses())
		})
	}
	all.Wait()
	for i := range said {
		if said[i] != said[0] {
			t.Fatalf("R5: the same was done, and the answer is another")
		}
	}
}

// Devices and sources of their own may be swept and marked with one book at one time.
func TestOneBookAtOneTime(t *testing.T) {
	one, two := trieOf(t, 256, first()), trieOf(t, 256, second())
	book := newBook(t, 256)
	var all sync.WaitGroup
	wrong := make([]string, 8)
	for i := range wrong {
		all.Go(func() {
			for range 30 {
				d, _ := media.New(40, 0)
				s, _ := hstore.New(d, book, 3)
				for _, b := range slices.Concat(one.blobs, two.blobs) {
					d.Put(b.Key, b.Data)
				}
				l, e := sweep.Mark(s, book, one.root, two.root)
				got, f := sweep.Sweep(d, s, book, nil, two.root)
				if e != api.OK || f != api.OK || !slices.Equal(l, union(one.keys, two.keys)) || got != (api.Swept{Live: len(two.keys), Deleted: len(lack(one.keys, two.keys))}) {
					wrong[i] = fmt.Sprint(len(l), e, got, f)
				}
			}
		})
	}
	all.Wait()
	for _, w := range wrong {
		if w != "" || !book.Sound() {
			t.Errorf("R5: %s", w)
		}
	}
}
