package cursor_test

import (
	"fmt"
	"maps"
	"slices"
	"sync"
	"testing"

	"cairn/api"
	"cairn/cursor"
)

// keeper is a source that tells the memory in which it keeps its nodes.
type keeper map[api.Hash][]byte

func (k keeper) Node(h api.Hash) ([]byte, api.Errno) {
	if b, there := k[h]; there {
		return b, api.OK
	}
	return nil, api.ErrAbsent
}

// kept makes such a source of a shelf's nodes, and tells beside it what each memory holds, spare room too.
func kept(src *shelf) (keeper, map[api.Hash]string) {
	k, was := keeper{}, map[api.Hash]string{}
	for h, b := range src.blobs {
		k[h] = roomy(b)
		was[h] = string(k[h][:cap(k[h])])
	}
	return k, was
}

func (k keeper) is(was map[api.Hash]string) bool {
	for h, b := range k {
		if string(b[:cap(b)]) != was[h] {
			return false
		}
	}
	return len(k) == len(was)
}

// shared writes a mark of its own into each list, spare room too, and tells whether one of them has lost its mark. A mark is one
// byte: so it is done twice, and no two lists have the same mark both times.
func shared(all [][]byte) bool {
	for _, marks := range []int{251, 241} {
		for i, b := range all {
			fill(b, byte(i%marks))
		}
		for i, b := range all {
			if slices.ContainsFunc(b[:cap(b)], func(x byte) bool { return x != byte(i%marks) }) {
				return true
			}
		}
	}
	return false
}

func grove() map[string]string {
	return map[string]string{"": "e", "\x12": "a", "\x12\x34": long, "\x12\x35": "b", "\x12\x35\x67": long + "!", "\x77": "seven", "\x78": "eight", "\x79\x99": "n", unhex(deep[:64]): long, unhex(deep[:62]): "up"}
}

// scene is the grove over a keeper.
func scene(t *testing.T) (r *rig, k keeper, was map[api.Hash]string, root api.Hash) {
	t.Helper()
	r = newRig(t, 256)
	root = r.plant(grove())
	k, was = kept(r.src)
	return r, k, was, root
}

// someScans are bounds and limits that tell much of the grove, and little.
func someScans() []bounds {
	return []bounds{from(""), from("\x12"), within("\x12", "\x78"), within("\x77", "\x77\x00"), from("\x79\x99"), within("", "\x01")}
}

// handOut tells what all scans hand out, and what a cursor does at each of its steps, forth and back.
func handOut(src api.Source, r *rig, root api.Hash) [][]api.Entry {
	var out [][]api.Entry
	for i, b := range someScans() {
		l, _, _ := cursor.Scan(src, r.book, root, api.Bounds{From: []byte(b.from), To: []byte(b.to), Open: b.open}, 9-i)
		out = append(out, l)
	}
	c, _ := cursor.New(src, r.book, root)
	for e := c.Seek(nil); e == api.OK; e = c.Next() {
		x, _ := c.Entry()
		out = append(out, []api.Entry{x})
	}
	for e := c.Last(); e == api.OK; e = c.Prev() {
		x, _ := c.Entry()
		y, _ := c.Entry()
		out = append(out, []api.Entry{x}, []api.Entry{y})
	}
	return out
}

// lists tells all lists of bytes of some answers.
func lists(all [][]api.Entry) [][]byte {
	var out [][]byte
	for _, l := range all {
		for _, x := range l {
			out = append(out, x.Key, x.Value)
		}
	}
	return out
}

func TestWhatIsHandedOutIsNew(t *testing.T) {
	r, k, was, root := scene(t)
	first, second := handOut(k, r, root), handOut(k, r, root)
	said := fmt.Sprintf("%x", second)
	if fmt.Sprintf("%x", first) != said || len(first) != 6+3*len(grove()) {
		t.Errorf("R5: calls that are done again answer otherwise")
	}
	if !k.is(was) {
		t.Errorf("R3: what the source told is changed")
	}
	for _, l := range first {
		clear(l[:cap(l)])
	}
	if fmt.Sprintf("%x", second) != said {
		t.Errorf("R3: two answers are one list")
	}
	first = handOut(k, r, root)
	if shared(slices.Concat(lists(first), lists(second))) {
		t.Errorf("R3: two answers, or two lists of one, share memory")
	}
	if !k.is(was) {
		t.Errorf("R3: an answer shares memory with what the source told")
	}
	if third := handOut(k, r, root); fmt.Sprintf("%x", third) != said {
		t.Errorf("R3: whoever writes into an answer changes the next one")
	}
	if !r.book.Sound() {
		t.Errorf("R3: the book is not sound")
	}
}

// Each step's entry is new, and none is what the cursor holds.
func TestEntriesAreNew(t *testing.T) {
	r, k, was, root := scene(t)
	c, _ := cursor.New(k, r.book, root)
	for e := c.Seek(nil); e == api.OK; e = c.Next() {
		x, _ := c.Entry()
		key, value := string(x.Key), string(x.Value)
		y, _ := c.Entry()
		if shared([][]byte{x.Key, x.Value, y.Key, y.Value}) {
			t.Errorf("R3: two entries share memory")
		}
		if z, _ := c.Entry(); string(z.Key) != key || string(z.Value) != value || grove()[key] != value {
			t.Errorf("R3: the cursor shares memory with what it told: it stands at %x", z.Key)
		}
	}
	if !k.is(was) {
		t.Errorf("R3: an entry shares memory with what the source told")
	}
}

// What was handed out, and where a cursor stands, stays as it was, whatever the source does with its memory then.
func TestNothingIsKeptOfTheSource(t *testing.T) {
	r, k, _, root := scene(t)
	var cursors []*cursor.Cursor
	keys := slices.Sorted(maps.Keys(grove()))
	for _, key := range keys {
		c, _ := cursor.New(k, r.book, root)
		if e := c.Seek([]byte(key)); e != api.OK {
			t.Fatal(e)
		}
		cursors = append(cursors, c)
	}
	out := handOut(k, r, root)
	said := fmt.Sprintf("%x", out)
	for _, b := range k {
		fill(b, 0xdd)
	}
	if fmt.Sprintf("%x", out) != said {
		t.Errorf("R3: an answer shares memory with what the source told")
	}
	for i, c := range cursors {
		if e, f, g := c.Next(), c.Seek(nil), c.Last(); e != api.ErrNode || f != api.ErrNode || g != api.ErrNode {
			t.Errorf("13.2: a node that was read is kept: %d, %d, %d", e, f, g)
		}
		if x, e := c.Entry(); string(x.Key) != keys[i] || string(x.Value) != grove()[keys[i]] || e != api.OK {
			t.Errorf("R3, 13.3: the cursor shares memory with what the source told: it stands at %x", x.Key)
		}
	}
}

// meddler is a source that writes into all that was handed in, while the call is on its way.
type meddler struct {
	*shelf
	handed [][]byte
}

func (m *meddler) Node(h api.Hash) ([]byte, api.Errno) {
	for _, b := range m.handed {
		fill(b, 0x66)
	}
	return m.shelf.Node(h)
}

func TestWhatIsHandedInIsNotKept(t *testing.T) {
	r := newRig(t, 256)
	root := r.plant(grove())
	for _, b := range someScans() {
		low, high := roomy(b.from), roomy(b.to)
		l, more, e := cursor.Scan(&meddler{r.src, [][]byte{low, high}}, r.book, root, api.Bounds{From: low, To: high, Open: b.open}, 99)
		if !slices.Equal(pairs(l), sortedWithin(grove(), b)) || more || e != api.OK {
			t.Errorf("R3, R5: %v: %d entries, %v, %d", b, len(l), more, e)
		}
	}
	m := &meddler{shelf: r.src}
	c, _ := cursor.New(m, r.book, root)
	for key, value := range grove() {
		handed := roomy(key)
		m.handed = [][]byte{handed}
		e := c.Seek(handed)
		fill(handed, 0x77)
		if x, f := c.Entry(); string(x.Key) != key || string(x.Value) != value || e != api.OK || f != api.OK {
			t.Errorf("R3, R5: Seek of %x: %d, at %x", key, e, x.Key)
		}
		if e := c.Next(); e == api.OK {
			c.Prev()
		}
		x, _ := c.Entry()
		m.handed = [][]byte{x.Key, x.Value} // as a source may that is told them
		c.Next()
		c.Prev()
		if e := c.Seek([]byte(key)); e != api.OK {
			t.Errorf("13.2: %d", e)
		}
		if y, _ := c.Entry(); string(y.Key) != key || string(y.Value) != value {
			t.Errorf("R3: whoever writes into an entry on the way moves the cursor: it stands at %x", y.Key)
		}
	}
}

func TestNilAndEmptyAreOne(t *testing.T) {
	r := newRig(t, 256)
	root := r.plant(grove())
	r.stand(root)
	want := sortedWithin(grove(), from(""))
	for _, none := range [][]byte{nil, {}, make([]byte, 0, 9)} {
		if e := r.cursor.Seek(none); e != api.OK {
			t.Errorf("R4: Seek: %d", e)
		}
		if x, e := r.cursor.Entry(); len(x.Key) != 0 || string(x.Value) != "e" || e != api.OK {
			t.Errorf("R4: it stands at %x (%q), %d", x.Key, x.Value, e)
		}
		for _, other := range [][]byte{nil, {}, make([]byte, 0, 9)} {
			if l, more, e := cursor.Scan(r.src, r.book, root, api.Bounds{From: none, To: other, Open: true}, 99); !slices.Equal(pairs(l), want) || more || e != api.OK {
				t.Errorf("R4: Scan: %d entries, %v, %d", len(l), more, e)
			}
			if l, more, e := cursor.Scan(r.src, r.book, root, api.Bounds{From: none, To: other}, 99); len(l) != 0 || more || e != api.OK {
				t.Errorf("R4: Scan of nothing: %d entries, %v, %d", len(l), more, e)
			}
		}
		h := hashOf(256, "")
		if l, more, e := cursor.Scan(keeper{h: none}, r.book, h, api.Bounds{Open: true}, 9); len(l) != 0 || more || e != api.ErrNode {
			t.Errorf("R4: a source that tells no byte: %d entries, %v, %d", len(l), more, e)
		}
	}
}

// Two cursors over one source and one book share nothing.
func TestTwoCursors(t *testing.T) {
	r := newRig(t, 256)
	root, other := r.plant(grove()), r.plant(map[string]string{"\x12": "another", "z": long})
	r.stand(root)
	r.seek("R5", "\x12")
	same, _ := cursor.New(r.src, r.book, root)
	second, _ := cursor.New(r.src, r.book, other)
	if _, e := same.Entry(); e != api.ErrEnd {
		t.Errorf("R5: a new cursor stands somewhere: %d", e)
	}
	second.Seek([]byte("\x12"))
	same.Last()
	r.look("R5")
	r.next("R5")
	if x, e := second.Entry(); string(x.Value) != "another" || e != api.OK {
		t.Errorf("R5: the other trie's cursor stands at %x, %d", x.Key, e)
	}
	if e := second.Next(); e != api.OK {
		t.Errorf("R5: %d", e)
	}
	if x, e := second.Entry(); string(x.Key) != "z" || e != api.OK {
		t.Errorf("R5: the other trie's cursor stands at %x, %d", x.Key, e)
	}
	if x, e := same.Entry(); string(x.Key) != "\x79\x99" || e != api.OK {
		t.Errorf("R5: the other cursor stands at %x, %d", x.Key, e)
	}
	r.look("R5")
}

// A call answers the same whatever the book has hashed and coded, and whatever has been refused.
func TestPastsThatDoNotCount(t *testing.T) {
	r, k, _, root := scene(t)
	said := fmt.Sprintf("%x", handOut(k, r, root))
	for _, s := range []string{"", "\x80", "anything", long} {
		r.book.Hash([]byte(s))
		r.book.Code([]byte(s))
		r.book.Accept([]byte(s+"?"), api.Hash{})
	}
	for _, b := range wrongBounds() {
		r.refused("R5", root, b, 9, api.ErrInput, 0)
	}
	r.refused("R5", api.Hash{9}, from(""), 9, api.ErrAbsent, 1)
	if fmt.Sprintf("%x", handOut(k, r, root)) != said {
		t.Errorf("R5: an answer hangs on what was before")
	}
}

// The book has hashed all that was read, and coded nothing.
func TestWhatTheBookKnows(t *testing.T) {
	for _, b := range someScans() {
		r := newRig(t, 256)
		root := r.plant(grove())
		r.scan("R7", root, b, 4)
		asked := slices.Clone(r.src.asked)
		r.stand(root)
		r.last("R7")
		asked = append(asked, r.src.asked...)
		r.prev("R7")
		asked = append(asked, r.src.asked...)
		r.book.Hash([]byte("\x80"))
		hashed, coded := r.book.Len()
		for _, h := range asked {
			r.book.Hash([]byte(r.src.blobs[h]))
		}
		if now, _ := r.book.Len(); now != hashed || coded != 0 || hashed > len(r.src.blobs)+1 {
			t.Errorf("R7: %d strings were not hashed, %d are coded; %d are hashed", now-hashed, coded, hashed)
		}
	}
}

// Bytes that were read wrong are known to the book too: they were held against a hash.
func TestTheBookKnowsWhatWasWrong(t *testing.T) {
	r := newRig(t, 256)
	root := r.plant(grove())
	r.src.blobs[root] = "other bytes"
	r.refused("R7", root, from(""), 9, api.ErrNode, 1)
	hashed, _ := r.book.Len()
	r.book.Hash([]byte("other bytes"))
	if now, _ := r.book.Len(); now != hashed {
		t.Errorf("R7: what the source told was held against a hash that the book has not made")
	}
}

// Cursors and scans of several goroutines over one source and one book come to the same.
func TestSideBySide(t *testing.T) {
	r, k, was, root := scene(t)
	said := make([]string, 8)
	var all sync.WaitGroup
	for i := range said {
		all.Go(func() {
			for range 20 {
				said[i] = fmt.Sprintf("%x", handOut(k, r, root))
			}
		})
	}
	all.Wait()
	for i := range said {
		if said[i] != said[0] {
			t.Fatalf("R5: two who ask the same at the same time are told otherwise")
		}
	}
	if !k.is(was) {
		t.Errorf("R3: what the source told is changed")
	}
}

// An answer is zero beside an error, whatever was met ahead of it.
func TestZeroBesideAnError(t *testing.T) {
	r := newRig(t, 256)
	root, nodes, _ := yard(r)
	for _, name := range order {
		h := hashOf(256, nodes[name])
		r.src.blobs[h] = "wrong"
		if l, more, e := cursor.Scan(r.src, r.book, root, api.Bounds{Open: true}, 9); len(l) != 0 || more || e != api.ErrNode {
			t.Errorf("R2: %s: %d entries, %v, %d", name, len(l), more, e)
		}
		c, _ := cursor.New(r.src, r.book, root)
		for e := c.Seek(nil); e == api.OK; {
			e = c.Next()
		}
		if x, e := c.Entry(); e != api.OK && (x.Key != nil || x.Value != nil) {
			t.Errorf("R2: %s: an entry %x beside %d", name, x.Key, e)
		}
		r.src.blobs[h] = nodes[name]
	}
}

// asker is a source that asks the cursor, while the cursor asks it, where it stands.
type asker struct {
	*shelf
	cursor *cursor.Cursor
	told   []string
}

func (a *asker) Node(h api.Hash) ([]byte, api.Errno) {
	x, e := a.cursor.Entry()
	a.told = append(a.told, fmt.Sprintf("%x %d", x.Key, e))
	return a.shelf.Node(h)
}

// As long as a call is on its way, the cursor stands where it stood.
func TestWhereItStandsOnTheWay(t *testing.T) {
	r := newRig(t, 256)
	a := &asker{shelf: r.src}
	c, _ := cursor.New(a, r.book, r.plant(grove()))
	a.cursor = c
	was := " 130"
	for e := c.Seek(nil); e == api.OK; e = c.Next() {
		for _, told := range a.told {
			if told != was {
				t.Fatalf("13.2: on the way it stands at %s, not at %s", told, was)
			}
		}
		x, _ := c.Entry()
		was, a.told = fmt.Sprintf("%x 0", x.Key), nil
	}
}

// breaker is a source that panics: that is none of this layer's errors, but the cursor stands where it stood.
type breaker struct {
	*shelf
	at api.Hash
}

func (b *breaker) Node(h api.Hash) ([]byte, api.Errno) {
	if h == b.at {
		panic("broken")
	}
	return b.shelf.Node(h)
}

func TestSourceThatPanics(t *testing.T) {
	r := newRig(t, 256)
	root, nodes, entries := yard(r)
	b := &breaker{shelf: r.src}
	c, _ := cursor.New(b, r.book, root)
	c.Seek([]byte(entries["E"]))
	b.at = hashOf(256, nodes["side"])
	func() {
		defer func() {
			if recover() != "broken" {
				t.Errorf("a panic of the source is told as something else")
			}
		}()
		c.Next()
	}()
	if x, e := c.Entry(); string(x.Key) != entries["E"] || e != api.OK {
		t.Errorf("13.2: it stands at %x, %d", x.Key, e)
	}
}
