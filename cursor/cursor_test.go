package cursor_test

import (
	"math"
	"strings"
	"testing"

	"cairn/api"
	"cairn/cursor"
	"cairn/digest"
	"cairn/hstore"
)

func TestNumbersOfErrors(t *testing.T) {
	if api.ErrHandle != 1 || api.ErrInput != 2 || api.ErrNode != 5 || api.ErrEnd != 130 || api.MaxKey != 32 {
		t.Errorf("chapter 13, Errors: %d, %d, %d, %d; keys of %d bytes", api.ErrHandle, api.ErrInput, api.ErrNode, api.ErrEnd, api.MaxKey)
	}
}

// wrongBounds are bounds that may not be.
func wrongBounds() []bounds {
	k33 := strings.Repeat("k", 33)
	return []bounds{from(k33), within(k33, ""), within("", k33), within("a", k33), within(k33, k33), {"", k33, true}, {"", "x", true}, {"a", "b", true}, {"b", "a", true}, {"", "\x00", true}, from(strings.Repeat("k", 64)), within("", strings.Repeat("k", 5000))}
}

func TestHandlesAreAskedFirst(t *testing.T) {
	r := newRig(t, 256)
	one := r.plant(map[string]string{"\x12": "a"})
	all := append(wrongBounds(), from(""), within("", ""), within("a", "b"), from("k"))
	for _, root := range []api.Hash{one, r.empty(), {}, {9}} {
		for name, c := range map[string]struct {
			src  api.Source
			book *digest.Book
		}{"a nil source": {nil, r.book}, "a nil book": {r.src, nil}, "both nil": {nil, nil}} {
			if got, e := cursor.New(c.src, c.book, root); got != nil || e != api.ErrHandle {
				t.Errorf("13.1: %s: %v, %d", name, got, e)
			}
			for _, b := range all {
				for _, limit := range []int{-1, 0, 9} {
					l, more, e := cursor.Scan(c.src, c.book, root, api.Bounds{From: []byte(b.from), To: []byte(b.to), Open: b.open}, limit)
					if len(l) != 0 || more || e != api.ErrHandle {
						t.Errorf("13.4: %s, %v, limit %d: %q, %v, %d", name, b, limit, l, more, e)
					}
				}
			}
		}
	}
	if len(r.src.asked) != 0 {
		t.Errorf("chapter 13, Errors: the source was asked, though there is no book")
	}
}

func TestNilCursor(t *testing.T) {
	var c *cursor.Cursor
	for range 2 {
		for _, key := range [][]byte{nil, {}, []byte("k"), make([]byte, 32), make([]byte, 33)} {
			if e := c.Seek(key); e != api.ErrHandle {
				t.Errorf("13.2: Seek of %d bytes at a nil cursor: %d", len(key), e)
			}
		}
		if e, f, g := c.Last(), c.Next(), c.Prev(); e != api.ErrHandle || f != api.ErrHandle || g != api.ErrHandle {
			t.Errorf("13.2: Last, Next, Prev of a nil cursor: %d, %d, %d", e, f, g)
		}
		if x, e := c.Entry(); x.Key != nil || x.Value != nil || e != api.ErrHandle {
			t.Errorf("13.3: Entry of a nil cursor: %v, %d", x, e)
		}
	}
}

// A source that is a nil pointer is there: what it answers is the answer.
func TestSourceThatIsANilPointer(t *testing.T) {
	book := newBook(t, 256)
	var none *hstore.Store
	c, e := cursor.New(none, book, api.Hash{})
	if c == nil || e != api.OK {
		t.Fatalf("13.1: %v, %d", c, e)
	}
	if e, f := c.Seek(nil), c.Last(); e != api.ErrHandle || f != api.ErrHandle {
		t.Errorf("13.2: %d, %d", e, f)
	}
	if e := c.Seek(make([]byte, 33)); e != api.ErrInput {
		t.Errorf("13.2: %d", e)
	}
	if e, f := c.Next(), c.Prev(); e != api.ErrEnd || f != api.ErrEnd {
		t.Errorf("13.2: %d, %d", e, f)
	}
	if _, _, e := cursor.Scan(none, book, api.Hash{}, api.Bounds{Open: true}, 0); e != api.ErrHandle {
		t.Errorf("13.4: %d", e)
	}
	if _, _, e := cursor.Scan(none, book, api.Hash{}, api.Bounds{Open: true}, -1); e != api.ErrInput {
		t.Errorf("13.4: %d", e)
	}
	if _, _, e := cursor.Scan(none, book, hashOf(256, "\x80"), api.Bounds{Open: true}, 1); e != api.OK {
		t.Errorf("13.4: the empty trie: %d", e)
	}
}

// New reads nothing and looks at nothing: any hash may be a root.
func TestNew(t *testing.T) {
	r := newRig(t, 256)
	for _, root := range []api.Hash{{}, {9}, r.empty(), r.plant(map[string]string{"k": "v"})} {
		r.stand(root)
		r.next("13.2: it stands at no entry")
		r.prev("13.2: it stands at no entry")
		if len(r.src.asked) != 0 {
			t.Errorf("13.2: %d nodes are read", len(r.src.asked))
		}
	}
	r.stand(api.Hash{9})
	if e := r.seek("13.2: no such root", ""); e != api.ErrAbsent {
		t.Errorf("13.2: %d", e)
	}
}

func TestLengthsOfKeys(t *testing.T) {
	for _, size := range []int{0, 1, 2, 31, 32} {
		key := strings.Repeat("\x9a", size)
		for _, value := range []string{"v", long} {
			r := newRig(t, 256)
			root := r.plant(map[string]string{key: value})
			r.stand(root)
			for _, e := range []api.Errno{r.seek("13.2", key), r.last("13.2"), r.seek("13.2", "")} {
				if e != api.OK {
					t.Errorf("13.2: the one entry of a key of %d bytes: %d", size, e)
				}
			}
			if e, f := r.next("13.2"), r.prev("13.2"); e != api.ErrEnd || f != api.ErrEnd || !r.stands {
				t.Errorf("13.2: a key of %d bytes has one behind it, or ahead: %d, %d", size, e, f)
			}
			r.tells("13.4", root, from(key), 1, 1, false, key)
			r.tells("13.4", root, from(""), 1, 1, false, key)
			if size > 0 {
				r.tells("13.4", root, within(key[1:], key), 1, 1, false)
				r.tells("13.4", root, within(key[1:], strings.Repeat("\xff", 32)), 1, 1, false, key)
			}
			if size < 32 {
				if e := r.seek("13.2", key+"\x00"); e != api.ErrEnd {
					t.Errorf("13.2: Seek just behind a key of %d bytes: %d", size, e)
				}
				r.tells("13.4", root, from(key+"\x00"), 1, 1, false)
				r.tells("13.4", root, within(key, key+"\x00"), 1, 1, false, key)
			}
		}
	}
}

func TestKeysThatAreTooLong(t *testing.T) {
	r := newRig(t, 256)
	root := r.plant(map[string]string{strings.Repeat("k", 32): "a", "l": "b"})
	down := api.Hash{1}
	r.src.errs[down] = api.ErrDown
	for _, root := range []api.Hash{root, r.empty(), {}, down} {
		r.stand(root)
		for range 2 {
			for _, size := range []int{33, 34, 64, 65, 5000} {
				if e := r.seek("13.2", strings.Repeat("k", size)); e != api.ErrInput || len(r.src.asked) != 0 {
					t.Errorf("13.2: Seek of %d bytes: %d", size, e)
				}
			}
			r.seek("13.2: from the second time on it stands somewhere", "")
		}
	}
	r.stand(root)
	if e := r.seek("13.2: a key of 32 bytes", strings.Repeat("k", 32)); e != api.OK {
		t.Errorf("13.2: %d", e)
	}
}

func TestBoundsThatMayNotBe(t *testing.T) {
	r := newRig(t, 256)
	root := r.plant(map[string]string{"a": "a", "b": long, strings.Repeat("k", 32): long})
	down := api.Hash{1}
	r.src.errs[down] = api.ErrDown
	for _, root := range []api.Hash{root, r.empty(), {}, down} {
		for _, b := range wrongBounds() {
			for _, limit := range []int{math.MinInt, -1, 0, 1, 9, math.MaxInt} {
				r.refused("13.4", root, b, limit, api.ErrInput, 0)
			}
		}
		for _, limit := range []int{-1, -2, math.MinInt, math.MinInt + 1} {
			for _, b := range []bounds{from(""), within("", ""), within("a", "b"), within("b", "a")} {
				r.refused("13.4", root, b, limit, api.ErrInput, 0)
			}
		}
	}
	k32 := strings.Repeat("k", 32)
	r.tells("13.4: bounds of 32 bytes may be", root, from(k32), 9, 3, false, k32)
	r.tells("13.4: bounds of 32 bytes may be", root, within("", k32), 9, 4, false, "a", "b")
	r.tells("13.4: bounds of 32 bytes may be", root, within(k32, k32), 9, 3, false)
}

func TestLimits(t *testing.T) {
	keys := []string{"", "\x11", "\x12", "\x12\x00", "\x21", "\xff"}
	for _, value := range []string{"v", long} {
		r := newRig(t, 256)
		entries := map[string]string{}
		for _, k := range keys {
			entries[k] = value
		}
		root := r.plant(entries)
		for _, b := range []bounds{from(""), from("\x11"), within("\x11", "\x21"), from("\x13"), within("\x12\x00", "\xff\xff")} {
			var in []string
			for _, k := range keys {
				if b.has(k) {
					in = append(in, k)
				}
			}
			for limit := range len(in) + 3 {
				got, more, e := r.scan("13.4", root, b, limit)
				if e != api.OK || len(got) != min(limit, len(in)) || more != (limit < len(in)) {
					t.Errorf("13.4: %v, limit %d of %d: %d entries, %v, %d", b, limit, len(in), len(got), more, e)
				}
				for i := range got {
					if got[i] != (pair{in[i], value}) {
						t.Errorf("13.4: %v, limit %d: entry %d is %x", b, limit, i, got[i].key)
					}
				}
			}
			for _, limit := range []int{1000, math.MaxInt32, math.MaxInt - 1, math.MaxInt} {
				if got, more, e := r.scan("13.4", root, b, limit); len(got) != len(in) || more || e != api.OK {
					t.Errorf("13.4: %v, limit %d: %d entries, %v, %d", b, limit, len(got), more, e)
				}
			}
		}
	}
}

func TestEmptyTrie(t *testing.T) {
	for bits := 8; bits <= 256; bits += 31 {
		r := newRig(t, bits)
		for range 3 {
			r.stand(r.empty())
			for _, key := range []string{"", "x", "\x80", strings.Repeat("k", 32)} {
				if e := r.seek("13.2", key); e != api.ErrEnd || len(r.src.asked) != 0 {
					t.Errorf("13.2: example 3: Seek: %d", e)
				}
				for _, b := range []bounds{from(key), within("", key), within(key, key+"z")} {
					if len(b.to) <= 32 {
						r.tells("13.4: example 3", r.empty(), b, 9, 0, false)
						r.tells("13.4: example 3", r.empty(), b, 0, 0, false)
					}
				}
			}
			if e, f, g := r.last("13.2"), r.next("13.2"), r.prev("13.2"); e != api.ErrEnd || f != api.ErrEnd || g != api.ErrEnd {
				t.Errorf("13.2: example 3: %d, %d, %d", e, f, g)
			}
			r.lay("\x80") // from the second time on the source has it, from the third on with an error: nobody asks
			if len(r.src.errs) == 0 && r.src.blobs[r.empty()] != "" {
				r.src.errs[r.empty()] = api.ErrDown
			}
		}
	}
}

// The empty trie's root hangs on the book: by a book of other bits it is a hash like any other.
func TestEmptyRootOfAnotherBook(t *testing.T) {
	r := newRig(t, 256)
	other := hashOf(64, "\x80")
	for _, told := range []string{"", "\x80"} {
		r.src.blobs[other] = told
		r.refused("13.4", other, from(""), 9, api.ErrNode, 1)
		r.stand(other)
		if e, f := r.seek("13.2", ""), r.last("13.2"); e != api.ErrNode || f != api.ErrNode {
			t.Errorf("13.2: %d, %d", e, f)
		}
	}
}

// four is the map of the examples; as it grows with longer values its nodes stand by their hashes.
func four(more string) map[string]string {
	return map[string]string{"": "e" + more, "k": "v" + more, "ka": "w" + more, "l": "x" + more}
}

func TestExample1(t *testing.T) {
	for _, value := range []string{"", long} {
		r := newRig(t, 256)
		root := r.plant(four(value))
		for _, c := range []struct {
			b     bounds
			limit int
			more  bool
			want  []string
		}{
			{from(""), 9, false, []string{"", "k", "ka", "l"}},
			{from(""), 2, true, []string{"", "k"}},
			{within("k", "l"), 9, false, []string{"k", "ka"}},
			{within("k", "k"), 9, false, nil},
			{within("l", "k"), 9, false, nil},
			{from("kb"), 1, false, []string{"l"}},
			{from(""), 0, true, nil},
			{from("m"), 0, false, nil},
		} {
			got, more, e := r.scan("13.4: example 1", root, c.b, c.limit)
			if len(got) != len(c.want) || more != c.more || e != api.OK {
				t.Errorf("13.4: example 1: %v, limit %d: %q, %v, %d", c.b, c.limit, got, more, e)
				continue
			}
			for i, key := range c.want {
				if got[i] != (pair{key, four(value)[key]}) {
					t.Errorf("13.4: example 1: %v, limit %d: %q", c.b, c.limit, got)
				}
			}
		}
	}
}

func TestExample2(t *testing.T) {
	for _, value := range []string{"", long} {
		r := newRig(t, 256)
		r.stand(r.plant(four(value)))
		step := func(what string, e, want api.Errno, at string) {
			t.Helper()
			x, f := r.cursor.Entry()
			if e != want || string(x.Key) != at || string(x.Value) != four(value)[at] || f != api.OK {
				t.Errorf("13.2: example 2: %s: %d, at %q (%q), %d, not %d, at %q", what, e, x.Key, x.Value, f, want, at)
			}
		}
		if e := r.next("13.2: example 2"); e != api.ErrEnd {
			t.Errorf("13.2: example 2: Next: %d", e)
		}
		step("Seek kz", r.seek("13.2: example 2", "kz"), api.OK, "l")
		step("Prev", r.prev("13.2: example 2"), api.OK, "ka")
		step("Prev", r.prev("13.2: example 2"), api.OK, "k")
		step("Next", r.next("13.2: example 2"), api.OK, "ka")
		step("Seek m", r.seek("13.2: example 2", "m"), api.ErrEnd, "ka")
		step("Last", r.last("13.2: example 2"), api.OK, "l")
		step("Next", r.next("13.2: example 2"), api.ErrEnd, "l")
		step("Seek of the empty key", r.seek("13.2: example 2", ""), api.OK, "")
		step("Prev", r.prev("13.2: example 2"), api.ErrEnd, "")
	}
}

// Example 3 is TestEmptyTrie.

func TestExample4(t *testing.T) {
	r := newRig(t, 256)
	root := r.plant(four(long))
	lost := leaf("1", "w"+long) // k is 6b: at 6b stands a branch with its value, and below it, at 6 of 61, this leaf
	h := hashOf(256, lost)
	if r.src.blobs[h] != lost {
		t.Fatalf("the node in which ka stands is another one")
	}
	delete(r.src.blobs, h)
	r.tells("13.4: example 4", root, from("l"), 9, 3, false, "l")
	r.tells("13.4: example 4", root, from(""), 1, 3, true, "")
	r.refused("13.4: example 4", root, from(""), 9, api.ErrAbsent, 4)
	r.tells("13.4: the walk stops at k", root, from(""), 1, 3, true, "")
	r.refused("13.4: the walk would stop at ka", root, from(""), 2, api.ErrAbsent, 4)
}

func TestExample5(t *testing.T) {
	r := newRig(t, 256)
	root := r.plant(four(""))
	for _, b := range []bounds{from(""), within("a", "k"), within("k", "a")} {
		r.refused("13.4: example 5", root, b, -1, api.ErrInput, 0)
	}
	r.refused("13.4: example 5", root, bounds{"", "x", true}, 9, api.ErrInput, 0)
	if c, e := cursor.New(nil, r.book, root); c != nil || e != api.ErrHandle {
		t.Errorf("13.1: example 5: %v, %d", c, e)
	}
}
