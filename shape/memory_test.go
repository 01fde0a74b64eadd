package shape_test

import (
	"fmt"
	"math/rand"
	"slices"
	"sync"
	"testing"

	"cairn/api"
	"cairn/digest"
	"cairn/shape"
)

func grove() map[string]string {
	return map[string]string{"": "e", "\x12": "a", "\x12\x34": long, "\x12\x35": "b", "\x12\x35\x67": long + "!", "\x22\x34": long, "\x77": "seven", "\x78": "eight", "\x79\x99": "n", ofSize(32): long, ofSize(31): "up"}
}

func someChanges() []api.Change {
	return []api.Change{put("\x12", long), gone("\x77"), put("new", "x"), gone("new"), put("new", "y"), gone("absent"), put("", long)}
}

// shared writes a mark of its own into each list, spare room too, and tells whether one of them has lost its mark. A mark is one
// byte: so it is done twice, and no two lists have the same mark both times.
func shared(all [][]byte) bool {
	for _, marks := range []int{251, 241} {
		for i, b := range all {
			fill(b, byte(i%marks))
		}
		for i, b := range all {
			if slices.ContainsFunc(b[:cap(b)], func(x byte) bool { return x != byte(i%marks) }) {
				return true
			}
		}
	}
	return false
}

// answers is what all calls hand out.
type answers struct {
	entries [][]api.Entry
	blobs   [][]api.Blob
	rest    string
}

func askAll(book *digest.Book, h *handed) answers {
	back := slices.Clone(h.entries)
	slices.Reverse(back)
	one, e := shape.Apply(h.entries, h.changes)
	same, f := shape.Apply(h.entries, nil)
	nodes, g := shape.Nodes(book, h.entries)
	root, i := shape.Root(book, h.entries)
	a, b, c, d, j := shape.Count(h.entries)
	return answers{
		[][]api.Entry{shape.Sort(h.entries), shape.Sort(back), shape.Sort(append(back, h.entries...)), one, same},
		[][]api.Blob{nodes},
		fmt.Sprint(e, f, g, root, i, a, b, c, d, j),
	}
}

func (a answers) tell() string { return fmt.Sprintf("%x %x %s", a.entries, a.blobs, a.rest) }

// lists tells all lists of bytes of answers.
func (a answers) lists() [][]byte {
	var out [][]byte
	for _, l := range a.entries {
		for _, x := range l {
			out = append(out, x.Key, x.Value)
		}
	}
	for _, l := range a.blobs {
		for _, b := range l {
			out = append(out, b.Data)
		}
	}
	return out
}

// spoil writes into all lists of answers, spare room too, but not into the bytes that stand there.
func (a answers) spoil() {
	for _, l := range a.entries {
		clear(l[:cap(l)])
	}
	for _, l := range a.blobs {
		clear(l[:cap(l)])
	}
}

func TestWhatIsHandedOutIsNew(t *testing.T) {
	book := newBook(t, 256)
	h := handIn(inOrder(grove()), someChanges())
	first, second := askAll(book, h), askAll(book, h)
	said := second.tell()
	if first.tell() != said || len(first.blobs[0]) < 5 || len(first.entries[3]) != len(grove()) {
		t.Errorf("R5: calls that are done again answer otherwise")
	}
	first.spoil()
	if second.tell() != said {
		t.Errorf("R3: two answers are one list")
	}
	first = askAll(book, h)
	if shared(slices.Concat(first.lists(), second.lists())) {
		t.Errorf("R3: two answers, or two lists of one, share memory")
	}
	if h.tell() != h.was {
		t.Errorf("R3: an answer shares memory with what was handed in")
	}
	second.spoil()
	if h.tell() != h.was {
		t.Errorf("R3: an answer is a list that was handed in")
	}
	if third := askAll(book, h); third.tell() != said {
		t.Errorf("R3: whoever writes into an answer changes the next one")
	}
	if !book.Sound() {
		t.Errorf("R3: the book is not sound")
	}
}

// What stands in an answer stays, whatever becomes of what was handed in.
func TestWhatIsHandedInIsNotKept(t *testing.T) {
	h := handIn(inOrder(grove()), someChanges())
	got := askAll(newBook(t, 256), h)
	said := got.tell()
	h.takeBack(t)
	if got.tell() != said {
		t.Errorf("R3: an answer shares memory with what was handed in")
	}
}

// One encoding that stands at several places is told once, in memory of its own; the lists of one entry of several are their own too.
func TestListsOfOneAnswer(t *testing.T) {
	book := newBook(t, 8)
	rnd := rand.New(rand.NewSource(149))
	for range rounds(100) {
		h := handIn(inOrder(someMap(rnd)), nil)
		blobs, e := shape.Nodes(book, h.entries)
		if e != api.OK || shared((answers{blobs: [][]api.Blob{blobs}}).lists()) {
			t.Fatalf("R3: two blobs of one answer share memory (%d)", e)
		}
		h.takeBack(t)
		value := roomy("v")
		all := make([]api.Entry, 20)
		for i := range all {
			all[i] = api.Entry{Key: value[:rnd.Intn(2)], Value: value}
		}
		entries := shape.Sort(all)
		if shared((answers{entries: [][]api.Entry{entries}}).lists()) || string(value) != "v" {
			t.Fatalf("R3: two entries of one answer share memory, or share it with what was handed in")
		}
	}
}

func TestNilAndEmptyAreOne(t *testing.T) {
	book := newBook(t, 256)
	want := model(256, map[string]string{"": "e", "k": "v"})
	for _, none := range [][]byte{nil, {}, make([]byte, 0, 9)} {
		l := []api.Entry{{Key: none, Value: []byte("e")}, {Key: []byte("k"), Value: []byte("v")}}
		if root, e := shape.Root(book, l); root != want.root || e != api.OK {
			t.Errorf("R4: Root: %x, %d", root, e)
		}
		if got, e := shape.Apply(l, []api.Change{{Key: none, Value: none, Gone: true}}); !slices.Equal(told(got), []pair{{"k", "v"}}) || e != api.OK {
			t.Errorf("R4: Apply: %q, %d", told(got), e)
		}
		if got, e := shape.Apply(l, []api.Change{{Key: none, Value: none}}); len(got) != 0 || e != api.ErrInput {
			t.Errorf("R4: Apply of no value: %q, %d", told(got), e)
		}
		if got, e := shape.Apply([]api.Entry{{Key: none, Value: none}}, nil); len(got) != 0 || e != api.ErrOrder {
			t.Errorf("R4: Apply to no value: %q, %d", told(got), e)
		}
		for _, other := range [][]byte{nil, {}, make([]byte, 0, 9)} {
			twice := []api.Entry{{Key: none, Value: []byte("e")}, {Key: other, Value: other}}
			if got := shape.Sort(twice); len(got) != 1 || len(got[0].Key) != 0 || len(got[0].Value) != 0 {
				t.Errorf("R4: Sort: %q", told(got))
			}
			twice[1].Value = []byte("f")
			if _, e := shape.Root(book, twice); e != api.ErrOrder {
				t.Errorf("R4: the empty key twice: %d", e)
			}
		}
	}
	for _, none := range [][]api.Entry{nil, {}, make([]api.Entry, 0, 3)} {
		if got := shape.Sort(none); len(got) != 0 {
			t.Errorf("R4: Sort of nothing: %q", told(got))
		}
		for _, changes := range [][]api.Change{nil, {}, make([]api.Change, 0, 3)} {
			if got, e := shape.Apply(none, changes); len(got) != 0 || e != api.OK {
				t.Errorf("R4: Apply of nothing: %q, %d", told(got), e)
			}
		}
	}
}

// An answer is zero beside an error.
func TestZeroBesideAnError(t *testing.T) {
	wrong := []api.Entry{{Key: []byte("a"), Value: []byte("v")}, {Key: []byte("a"), Value: []byte("v")}}
	right := wrong[:1]
	book := newBook(t, 256)
	for _, c := range []struct {
		book    *digest.Book
		entries []api.Entry
	}{{nil, right}, {nil, wrong}, {book, wrong}} {
		if root, e := shape.Root(c.book, c.entries); root != (api.Hash{}) || e == api.OK {
			t.Errorf("R2: Root: %x, %d", root, e)
		}
		if blobs, e := shape.Nodes(c.book, c.entries); blobs != nil || e == api.OK {
			t.Errorf("R2: Nodes: %x, %d", blobs, e)
		}
	}
	if got, e := shape.Apply(wrong, nil); got != nil || e != api.ErrOrder {
		t.Errorf("R2: Apply: %q, %d", got, e)
	}
	if got, e := shape.Apply(right, []api.Change{put("b", "c"), put("b", "")}); got != nil || e != api.ErrInput {
		t.Errorf("R2: Apply: %q, %d", got, e)
	}
	if a, b, c, d, e := shape.Count(wrong); a != 0 || b != 0 || c != 0 || d != 0 || e != api.ErrOrder {
		t.Errorf("R2: Count: %d, %d, %d, %d, %d", a, b, c, d, e)
	}
}

// A call answers the same whatever the book has hashed and coded, and whatever was asked ahead of it.
func TestPastsThatDoNotCount(t *testing.T) {
	for _, bits := range []int{256, 8} {
		book := newBook(t, bits)
		rnd := rand.New(rand.NewSource(150))
		for range rounds(100) {
			entries := someMap(rnd)
			want := model(bits, entries)
			asks(t, "R5", bits, book, entries, want)
			for _, s := range []string{"", "\x80", someValue(rnd), long} {
				book.Hash([]byte(s))
				book.Code([]byte(s))
				book.Accept([]byte(s+"?"), api.Hash{})
			}
			rootOf(t, book, pairs("12", ""))
			nodesOf(t, book, pairs("13", "a", "12", "b"))
			asks(t, "R5", bits, book, entries, want)
		}
	}
}

// The book has hashed all that stands by its hash, and coded nothing.
func TestWhatTheBookKnows(t *testing.T) {
	rnd := rand.New(rand.NewSource(151))
	for range rounds(100) {
		entries := someMap(rnd)
		l := inOrder(entries)
		for _, ask := range []func(*digest.Book){
			func(book *digest.Book) { rootOf(t, book, l) },
			func(book *digest.Book) { nodesOf(t, book, l) },
		} {
			book := newBook(t, 256)
			ask(book)
			hashed, coded := book.Len()
			for _, b := range model(256, entries).blobs {
				book.Hash([]byte(b.data))
			}
			if now, _ := book.Len(); now != hashed || coded != 0 {
				t.Fatalf("R7: %d strings were not hashed, %d are coded", now-hashed, coded)
			}
		}
		book := newBook(t, 256)
		rootOf(t, book, nil)
		hashed, _ := book.Len()
		book.Hash([]byte{128})
		if now, _ := book.Len(); now != hashed {
			t.Fatalf("R7: the root of no entries is a hash that the book has not made")
		}
	}
}

// Several goroutines that ask one book about the same entries are told the same.
func TestSideBySide(t *testing.T) {
	book := newBook(t, 256)
	h := handIn(inOrder(grove()), someChanges())
	said := make([]string, 8)
	var all sync.WaitGroup
	for i := range said {
		all.Go(func() {
			for range 20 {
				said[i] = askAll(book, h).tell()
			}
		})
	}
	all.Wait()
	for i := range said {
		if said[i] != said[0] {
			t.Fatalf("R5: two who ask the same at the same time are told otherwise")
		}
	}
	h.takeBack(t)
}
