package grow_test

import (
	"strings"
	"testing"

	"cairn/api"
	"cairn/find"
	"cairn/grow"
	"cairn/hstore"
	"cairn/node"
)

func TestNumbersOfErrors(t *testing.T) {
	if api.ErrHandle != 1 || api.ErrInput != 2 || api.ErrClash != 4 || api.ErrNode != 5 {
		t.Errorf("chapter 12, Errors: %d, %d, %d, %d", api.ErrHandle, api.ErrInput, api.ErrClash, api.ErrNode)
	}
}

func TestNewOfNothing(t *testing.T) {
	book, src := newBook(t, 256), newShelf()
	if s, e := grow.New(nil, book); s != nil || e != api.ErrHandle {
		t.Errorf("12.1: a nil source: %v, %d", s, e)
	}
	if s, e := grow.New(src, nil); s != nil || e != api.ErrHandle {
		t.Errorf("12.1: a nil book: %v, %d", s, e)
	}
	if s, e := grow.New(nil, nil); s != nil || e != api.ErrHandle {
		t.Errorf("12.1: both nil: %v, %d", s, e)
	}
	s, e := grow.New(src, book)
	if s == nil || e != api.OK || s.Len() != 0 || len(src.asked) != 0 {
		t.Fatalf("12.1: %v, %d, %d staged, asked for %x", s, e, s.Len(), src.asked)
	}
	if hashed, coded := book.Len(); hashed != 0 || coded != 0 {
		t.Errorf("12.1: New has the book hash %d and code %d", hashed, coded)
	}
}

func TestNilStage(t *testing.T) {
	var s *grow.Stage
	wrong := make([]byte, 33)
	for _, root := range []api.Hash{{}, {9}, hashOf(256, "\x80")} {
		if b, e := s.Node(root); len(b) != 0 || e != api.ErrHandle {
			t.Errorf("12.2: %x, %d", b, e)
		}
		for _, key := range [][]byte{nil, []byte("k"), wrong} {
			for _, value := range [][]byte{nil, []byte("v"), make([]byte, 257)} {
				if h, e := s.Put(root, key, value); h != (api.Hash{}) || e != api.ErrHandle {
					t.Errorf("chapter 12, Errors: Put: %x, %d", h, e)
				}
				if h, e := s.Apply(root, []api.Change{{Key: key, Value: value, Gone: true}}); h != (api.Hash{}) || e != api.ErrHandle {
					t.Errorf("chapter 12, Errors: Apply: %x, %d", h, e)
				}
			}
			if h, e := s.Delete(root, key); h != (api.Hash{}) || e != api.ErrHandle {
				t.Errorf("chapter 12, Errors: Delete: %x, %d", h, e)
			}
		}
		if h, e := s.Apply(root, nil); h != (api.Hash{}) || e != api.ErrHandle {
			t.Errorf("chapter 12, Errors: Apply without changes: %x, %d", h, e)
		}
		if l, e := s.Reach(root); len(l) != 0 || e != api.ErrHandle {
			t.Errorf("12.7: Reach: %v, %d", l, e)
		}
	}
	if s.Len() != 0 {
		t.Errorf("12.7: Len of a nil stage: %d", s.Len())
	}
}

// A Stage is a source, a nil one too, as is one over another.
func TestStageIsASource(t *testing.T) {
	var none *grow.Stage
	book := newBook(t, 256)
	if _, _, e := find.Get(none, book, api.Hash{}, nil); e != api.ErrHandle {
		t.Errorf("12.2: %d", e)
	}
	if s, e := grow.New(none, book); s == nil || e != api.OK {
		t.Errorf("12.1: a source that is a nil pointer is there: %v, %d", s, e)
	} else if h, e := s.Put(api.Hash{}, nil, []byte("v")); h != (api.Hash{}) || e != api.ErrHandle {
		t.Errorf("12.4: what it answers is the answer: %x, %d", h, e)
	}
	var store *hstore.Store
	if s, e := grow.New(store, book); s == nil || e != api.OK {
		t.Errorf("12.1: a source that is a nil pointer is there: %v, %d", s, e)
	}
	r := newRig(t, 256)
	one := r.done("12.3", r.empty(), 0, 1, put("k", long))
	upper, e := grow.New(r.stage, r.book)
	if e != api.OK {
		t.Fatal(e)
	}
	two, e := upper.Put(one, []byte("l"), []byte(long+"!"))
	if e != api.OK || upper.Len() != 4 {
		t.Errorf("12.2: over another stage: %d, %d staged", e, upper.Len())
	}
	holds(t, "12.9: over another stage", upper, r.book, two, map[string]string{"k": long, "l": long + "!"}, "", "k", "l", "m")
	r.same("R5: the stage below is as it was")
}

func TestNodeTellsWhatTheSourceAnswers(t *testing.T) {
	r := newRig(t, 256)
	wrong := api.Hash{7}
	for _, told := range []string{"", "\x00", "\x80", "no node", long, strings.Repeat("x", 5000), leaf("12", "a")} {
		r.src.blobs[wrong] = told // 12.2 looks at nothing; who reads a node does
		r.src.asked = nil
		if b, e := r.stage.Node(wrong); string(b) != told || e != api.OK || len(r.src.asked) != 1 || r.src.asked[0] != wrong {
			t.Errorf("12.2: %.20x, %d, asked for %x", b, e, r.src.asked)
		}
	}
	for _, e := range []api.Errno{-1, 1, 2, 3, 4, 5, 6, 7, 81, 320, 99999} {
		r.src.errs[wrong] = e
		r.src.asked = nil
		if b, f := r.stage.Node(wrong); len(b) != 0 || f != e || len(r.src.asked) != 1 {
			t.Errorf("12.2, R2: %.20x, %d, not %d; asked %d times", b, f, e, len(r.src.asked))
		}
	}
	if b, e := r.stage.Node(api.Hash{8}); len(b) != 0 || e != api.ErrAbsent {
		t.Errorf("12.2: %x, %d", b, e)
	}
	if b, e := r.stage.Node(r.empty()); len(b) != 0 || e != api.ErrAbsent {
		t.Errorf("12.2: of the empty trie's root: %x, %d", b, e)
	}
	root := r.done("12.3", r.empty(), 0, 1, put("k", "v"))
	r.src.blobs[root], r.src.errs[root] = "something else", api.ErrDown
	r.src.asked = nil
	if b, e := r.stage.Node(root); string(b) != leaf("6b", "v") || e != api.OK || len(r.src.asked) != 0 {
		t.Errorf("12.2: what is staged is told by the stage: %x, %d, asked for %x", b, e, r.src.asked)
	}
}

func TestLengthsOfKeysAndValues(t *testing.T) {
	down := api.Hash{1}
	for _, planted := range []bool{false, true} {
		r := newRig(t, 256)
		r.src.errs[down] = api.ErrDown
		root := r.empty()
		if planted {
			root = r.plant(map[string]string{"\x12": "a", "\x13": long, strings.Repeat("\x9a", 31): "b"})
		}
		for _, size := range []int{0, 1, 2, 31, 32} {
			key := strings.Repeat("\x9a", size)
			for _, bytes := range []int{1, 2, 31, 32, 55, 56, 255, 256} {
				value := strings.Repeat("\xb7", bytes)
				next, e := r.do("12.3", root, put(key, value))
				if e != api.OK {
					t.Fatalf("12.3: a key of %d and a value of %d bytes: %d", size, bytes, e)
				}
				r.holds("12.9", next, map[string]string{key: value})
				if back, e := r.do("12.3", next, gone(key)); e != api.OK || size != 31 && back != root {
					t.Errorf("12.11: a key of %d and a value of %d bytes: %d", size, bytes, e)
				}
			}
			for _, bytes := range []int{0, 257, 258, 1024, 70000} {
				r.refused("12.3: a value that may not be", root, api.ErrInput, 0, put(key, strings.Repeat("v", bytes)))
				r.refused("12.3: it is looked for ahead of reading", down, api.ErrInput, 0, put(key, strings.Repeat("v", bytes)))
			}
		}
		for _, size := range []int{33, 34, 64, 65, 5000} {
			key := strings.Repeat("\x9a", size)
			for _, on := range []api.Hash{root, down, {}} {
				r.refused("12.3: a key that may not be", on, api.ErrInput, 0, put(key, "v"))
				r.refused("12.3: a key that may not be", on, api.ErrInput, 0, gone(key))
				r.refused("12.3: both", on, api.ErrInput, 0, put(key, ""))
			}
		}
		r.refused("12.4", down, api.ErrDown, 1, put("k", "v"))
		r.refused("12.4", down, api.ErrDown, 1, gone("k"))
	}
}

func TestExample1(t *testing.T) {
	r := newRig(t, 256)
	one := r.done("12.3: example 1", r.empty(), 0, 1, put("k", "v"))
	if one != hashOf(256, "\xc4\x82\x20\x6b\x76") || node.Empty(r.book) != r.empty() {
		t.Errorf("12.3: example 1: %x", one)
	}
	if again := r.done("12.3: example 1", one, 0, 0, put("k", "v")); again != one {
		t.Errorf("12.3: example 1: another root")
	}
	if back := r.done("12.3: example 1", one, 0, 0, gone("k")); back != r.empty() {
		t.Errorf("12.3: example 1: another root than the empty one")
	}
	if back := r.done("12.3: example 1", r.empty(), 0, 0, gone("k")); back != r.empty() {
		t.Errorf("12.3: example 1: another root than the empty one")
	}
}

func TestExample2(t *testing.T) {
	r := newRig(t, 256)
	one := r.done("12.3: example 2", r.empty(), 0, 1, put("k", "v"))
	two := r.done("12.3: example 2", one, 0, 1, put("l", "w"))
	fork := branch("", kid{11, "\xc2\x20\x76"}, kid{12, "\xc2\x20\x77"})
	if len(fork) != 22 || two != hashOf(256, ext("6", fork)) {
		t.Errorf("12.3: example 2: %x", two)
	}
	if back := r.done("12.3: example 2", two, 0, 0, gone("l")); back != one {
		t.Errorf("12.11: example 2: another root than 1's")
	}
}

func TestExample3(t *testing.T) {
	r := newRig(t, 256)
	one := r.done("12.3: example 3", r.empty(), 0, 1, put("k", "v"))
	both := r.done("12.3: example 3", one, 0, 1, put("", "e"))
	if both != hashOf(256, branch("e", kid{6, leaf("b", "v")})) {
		t.Errorf("12.3: example 3: %x", both)
	}
	if alone := r.done("12.3: example 3", both, 0, 1, gone("k")); alone != hashOf(256, leaf("", "e")) {
		t.Errorf("12.3: example 3: %x", alone)
	}
	if back := r.done("12.3: example 3", both, 0, 0, gone("")); back != one {
		t.Errorf("12.11: example 3: %x", back)
	}
}

func TestExample4(t *testing.T) {
	r := newRig(t, 256)
	one := r.done("12.3: example 4", r.empty(), 0, 1, put("k", "v"))
	both := r.done("12.3: example 4", one, 0, 1, put("ka", "w"))
	if both != hashOf(256, ext("6b", branch("v", kid{6, leaf("1", "w")}))) {
		t.Errorf("12.3: example 4: %x", both)
	}
}

func TestExample5(t *testing.T) {
	r := newRig(t, 256)
	wrong := gone("k")
	wrong.Value = []byte("x")
	r.refused("12.6: example 5", r.empty(), api.ErrInput, 0, put("k", "v"), wrong)
	if one := r.done("12.6: example 5", r.empty(), 0, 1, put("k", "v"), gone("zz")); one != hashOf(256, leaf("6b", "v")) {
		t.Errorf("12.6: example 5: %x", one)
	}
	for _, root := range []api.Hash{r.empty(), {}, {9}, hashOf(256, "nothing")} {
		if got := r.done("12.6: example 5", root, 0, 0); got != root {
			t.Errorf("12.6: example 5: %x", got)
		}
	}
}

func TestExample6(t *testing.T) {
	r := newRig(t, 256)
	for _, e := range []api.Errno{api.ErrAbsent, api.ErrDown, api.ErrNode, 99} {
		r.src.errs[api.Hash{9}] = e
		r.refused("12.4: example 6", api.Hash{9}, e, 1, put("k", "v"))
		r.refused("12.4: example 6", api.Hash{9}, e, 1, gone("k"))
		r.refused("12.4: example 6", api.Hash{9}, e, 1, put("k", "v"), gone("k"))
	}
}

func TestExample7(t *testing.T) {
	r := newRig(t, 8)
	root := r.empty()
	for i := range 400 {
		next, e := r.do("12.5: example 7", root, put(string([]byte{byte(i)}), strings.Repeat("v", 1+i)))
		if e == api.ErrClash {
			if r.book.Sound() {
				t.Errorf("12.5: example 7: a clash of which the book knows nothing")
			}
			return
		}
		if e != api.OK {
			t.Fatalf("12.5: example 7: %d", e)
		}
		root = next
	}
	t.Errorf("12.5: example 7: no clash")
}
