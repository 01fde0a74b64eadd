package find_test

import (
	"strings"
	"testing"

	"cairn/api"
	"cairn/digest"
	"cairn/find"
	"cairn/hstore"
)

// both asks both calls for a key, and tells their errors where all else is zero.
func both(t *testing.T, src api.Source, book *digest.Book, root api.Hash, key []byte) (api.Errno, api.Errno) {
	t.Helper()
	v, found, e := find.Get(src, book, root, key)
	if len(v) != 0 || found {
		t.Errorf("R2: Get = %q, %v beside %d", v, found, e)
	}
	l, f := find.Trail(src, book, root, key)
	if len(l) != 0 {
		t.Errorf("R2: Trail = %q beside %d", l, f)
	}
	return e, f
}

func TestNumbersOfErrors(t *testing.T) {
	if api.ErrHandle != 1 || api.ErrInput != 2 || api.ErrDown != 3 || api.ErrNode != 5 {
		t.Errorf("chapter 11, Errors: %d, %d, %d, %d", api.ErrHandle, api.ErrInput, api.ErrDown, api.ErrNode)
	}
}

func TestHandlesAreAskedFirst(t *testing.T) {
	r := newRig(t, 256)
	one := r.plant(map[string]string{"\x12": "a"})
	empty := hashOf(256, "\x80")
	for _, root := range []api.Hash{one, empty, {}, {9}} {
		for _, size := range []int{0, 1, 32, 33, 999} {
			key := make([]byte, size)
			for name, c := range map[string]struct {
				src  api.Source
				book *digest.Book
			}{"a nil Source": {nil, r.book}, "a nil book": {r.src, nil}, "both nil": {nil, nil}} {
				if e, f := both(t, c.src, c.book, root, key); e != api.ErrHandle || f != api.ErrHandle {
					t.Errorf("chapter 11, Errors: %s with a key of %d bytes: %d, %d", name, size, e, f)
				}
			}
		}
	}
	if len(r.src.asked) != 0 {
		t.Errorf("chapter 11, Errors: the source was asked, though there is no book")
	}
}

// A Source that is a nil pointer is there: what it answers is the answer.
func TestSourceThatIsANilPointer(t *testing.T) {
	book := newBook(t, 256)
	var none *hstore.Store
	if e, f := both(t, none, book, api.Hash{}, nil); e != api.ErrHandle || f != api.ErrHandle {
		t.Errorf("P11.1: %d, %d", e, f)
	}
	if e, f := both(t, none, book, api.Hash{}, make([]byte, 33)); e != api.ErrInput || f != api.ErrInput {
		t.Errorf("chapter 11, Errors: %d, %d", e, f)
	}
	if e, f := both(t, none, book, hashOf(256, "\x80"), nil); e != api.OK || f != api.OK {
		t.Errorf("P11.1: of the empty trie: %d, %d", e, f)
	}
}

func TestLengthsOfKeys(t *testing.T) {
	for _, size := range []int{0, 1, 2, 31, 32} {
		key := strings.Repeat("\x9a", size)
		r := newRig(t, 256)
		root := r.plant(map[string]string{key: long})
		r.found("P11.1", root, key, long, 1)
		r.nothing("P11.1", hashOf(256, "\x80"), key, 0)
		if size < 32 {
			r.nothing("P11.1", root, key+"\x9a", 1)
		}
		if size > 0 {
			r.nothing("P11.1", root, key[1:], 1)
		}
	}
}

func TestKeysThatAreTooLong(t *testing.T) {
	r := newRig(t, 256)
	key := strings.Repeat("\x9a", 32)
	one := r.plant(map[string]string{key: "a", key[:31]: "b"})
	down := api.Hash{1}
	r.src.errs[down] = api.ErrDown
	for _, root := range []api.Hash{one, hashOf(256, "\x80"), {}, down} {
		for _, size := range []int{33, 34, 64, 65, 5000} {
			r.refused("chapter 11, Errors", root, strings.Repeat("\x9a", size), api.ErrInput, 0)
		}
	}
	r.found("P11.1", one, key, "a", 1)
	r.refused("chapter 11, Errors", down, key, api.ErrDown, 1)
}

func TestEmptyTrie(t *testing.T) {
	keys := []string{"", "x", "\x80", strings.Repeat("k", 32)}
	for bits := 8; bits <= 256; bits += 31 {
		r := newRig(t, bits)
		empty := hashOf(bits, "\x80")
		for _, key := range keys {
			r.nothing("P11.1", empty, key, 0)
		}
		r.src.errs[empty] = api.ErrDown // nobody asks for it
		for _, key := range keys {
			r.nothing("P11.1", empty, key, 0)
		}
		delete(r.src.errs, empty)
		r.lay("\x80")
		for _, key := range keys {
			r.nothing("P11.1", empty, key, 0)
		}
	}
}

// The empty trie's root hangs on the book: by a book of other bits it is a hash like any other.
func TestEmptyRootOfAnotherBook(t *testing.T) {
	r := newRig(t, 256)
	other := hashOf(64, "\x80")
	r.refused("P11.1", other, "x", api.ErrNode, 1)
	r.src.blobs[other] = "\x80"
	r.refused("P11.1", other, "x", api.ErrNode, 1)
	r.refused("P11.1", api.Hash{}, "x", api.ErrNode, 1)
}

// A trie whose root is by chance the empty one's is the empty trie: few bits alone show it.
func TestRootLikeTheEmptyOne(t *testing.T) {
	r := newRig(t, 8)
	empty := hashOf(8, "\x80")
	value := ""
	for i := 0; hashOf(8, leaf("12", value)) != empty; i++ {
		value = strings.Repeat("v", i/200) + string([]byte{byte(i%200) + 1})
	}
	if root := r.plant(map[string]string{"\x12": value}); root != empty {
		t.Fatalf("the root is %x", root)
	}
	r.nothing("P11.1", empty, "\x12", 0)
}

func TestExample1(t *testing.T) {
	r := newRig(t, 256)
	root := hashOf(256, "\x80")
	if got := unhex("76be8b528d0075f7aae98d6fa57a6d3c83ae480a8469e668d7b0af968995ac71"); string(root[:]) != got {
		t.Errorf("the empty trie's root is %x", root)
	}
	for _, key := range []string{"", "\x00", "any key", strings.Repeat("\xff", 32)} {
		if v, found, e := find.Get(r.src, r.book, root, []byte(key)); len(v) != 0 || found || e != api.OK {
			t.Errorf("P11.2: example 1: %q, %v, %d", v, found, e)
		}
		if l, e := find.Trail(r.src, r.book, root, []byte(key)); len(l) != 0 || e != api.OK {
			t.Errorf("P11.3: example 1: %q, %d", l, e)
		}
	}
}

func TestExample2(t *testing.T) {
	r := newRig(t, 256)
	root := r.plant(map[string]string{"\x12": "a"})
	encoding := "\xc4\x82\x20\x12\x61"
	if root != hashOf(256, encoding) {
		t.Fatalf("the trie of 12: it has another root")
	}
	r.found("P11.2: example 2", root, "\x12", "a", 1)
	for _, key := range []string{"\x13", "", "\x12\x00"} {
		r.nothing("P11.2: example 2", root, key, 1)
	}
	for _, key := range []string{"\x12", "\x13", "", "\x12\x00"} {
		if a := r.ask("P11.3: example 2", root, key); len(a.trail) != 1 || a.trail[0] != encoding {
			t.Errorf("P11.3: example 2: the trail of %x is %x", key, a.trail)
		}
	}
}

func TestExample3(t *testing.T) {
	r := newRig(t, 256)
	root := r.plant(map[string]string{"\x12": "a", "\x13": "b"})
	encoding := "\xd7\x11\xd5\x80\x80\xc2\x20\x61\xc2\x20\x62" + strings.Repeat("\x80", 13)
	if root != hashOf(256, encoding) || len(r.src.blobs) != 1 {
		t.Fatalf("the trie of 12 and 13 has another root, or %d blobs", len(r.src.blobs))
	}
	r.found("P11.2: example 3", root, "\x13", "b", 1)
	r.found("P11.2: example 3", root, "\x12", "a", 1)
	for _, key := range []string{"", "\x11", "\x1f", "\x22", "\x12\x00", "\x13\x31", strings.Repeat("\x12", 32)} {
		r.nothing("P11.2: example 3", root, key, 1)
	}
	for i := range 256 {
		if a := r.ask("P11.3: example 3", root, string([]byte{byte(i)})); len(a.trail) != 1 || a.trail[0] != encoding {
			t.Errorf("P11.3: example 3: the trail of %x is %x", i, a.trail)
		}
	}
}

func TestExample4(t *testing.T) {
	r := newRig(t, 256)
	root := r.plant(map[string]string{"": "e", "\x12": "a"})
	if root != hashOf(256, branch("e", kid{1, leaf("2", "a")})) {
		t.Fatalf("the trie of the empty key and 12 has another root")
	}
	r.found("P11.2: example 4", root, "", "e", 1)
	r.found("P11.2: example 4", root, "\x12", "a", 1)
	for _, key := range []string{"\x10", "\x02", "\x12\x12", "\xff"} {
		r.nothing("P11.2: example 4", root, key, 1)
	}
}

func TestExample5(t *testing.T) {
	r := newRig(t, 256)
	root := r.plant(map[string]string{"\x12": "a"})
	r.src.errs[root] = api.ErrDown
	r.refused("P11.1: example 5: the source is down", root, "\x12", api.ErrDown, 1)
	delete(r.src.errs, root)
	for _, told := range []string{"\x01\x02\x03", leaf("13", "b"), leaf("12", "b")} {
		r.src.blobs[root] = told
		r.refused("P11.1: example 5: other bytes", root, "\x12", api.ErrNode, 1)
	}
	r.lay("\x01\x02\x03")
	r.refused("P11.1: example 5: bytes that are no node, under their own hash", hashOf(256, "\x01\x02\x03"), "\x12", api.ErrNode, 1)
	half := r.lay(leaf("1", "a"))
	for i := range 256 {
		r.refused("P11.1: example 5: an entry of half a byte", half, string([]byte{byte(i)}), api.ErrNode, 1)
	}
	r.refused("P11.1: example 5: an entry of half a byte", half, "", api.ErrNode, 1)
	if e, f := both(t, nil, r.book, root, nil); e != api.ErrHandle || f != api.ErrHandle {
		t.Errorf("chapter 11, Errors: example 5: %d, %d", e, f)
	}
	r.refused("chapter 11, Errors: example 5", root, strings.Repeat("k", 33), api.ErrInput, 0)
}
