package extract_test

import (
	"strings"
	"testing"

	"cairn/api"
	"cairn/extract"
	"cairn/span"
	"cairn/verify"
)

func TestNumbers(t *testing.T) {
	if api.ErrHandle != 1 || api.ErrInput != 2 || api.ErrNone != 180 || api.MaxKey != 32 {
		t.Errorf("chapter 18: %d, %d, %d; keys of %d bytes", api.ErrHandle, api.ErrInput, api.ErrNone, api.MaxKey)
	}
}

// kLeaf is the leaf of the examples, k with v.
const kLeaf = "\xc4\x82\x20\x6b\x76"

// kTwin is the leaf of k with another value that has the hash of a string.
func kTwin(bits int, s string) string { return another(bits, hashOf(bits, s), asShort("6b"), s) }

func TestExample1(t *testing.T) {
	if kLeaf != leaf("6b", "v") {
		t.Fatalf("example 1: the leaf is %x", leaf("6b", "v"))
	}
	for _, bits := range []int{8, 9, 12} {
		r := newRig(t, bits)
		root, other := r.book.Hash([]byte(kLeaf)), kTwin(bits, kLeaf)
		for _, at := range []aim{to("k"), overAll(), over(within("k", "l"))} {
			r.findsNone("example 1: the same", []string{kLeaf}, root, at, kLeaf)
			r.finds("example 1: the other one", []string{kLeaf}, root, at, kLeaf, other, other)
		}
		value, is, e := verify.Verify(r.book, root, []byte("k"), []byte(listOf(other)))
		if other != leaf("6b", string(value)) || !is || e != api.OK {
			t.Errorf("example 1: verify tells %q, %v, %d", value, is, e)
		}
		l, e := span.Verify(r.book, root, api.Bounds{Open: true}, []byte(listOf(other)))
		if len(l) != 1 || other != leaf("6b", string(l[0].Value)) || e != api.OK {
			t.Errorf("example 1: span tells %q, %d", l, e)
		}
	}
}

func TestExample2(t *testing.T) {
	for _, bits := range []int{8, 9, 12} {
		r := newRig(t, bits)
		other := kTwin(bits, nothing)
		for _, at := range []aim{to("k"), to(""), overAll(), over(within("k", "l"))} {
			r.finds("example 2", nil, emptyRoot(bits), at, nothing, other, other)
			r.findsNoneIn("example 2: c0", nil, emptyRoot(bits), at, "\xc0")
		}
	}
}

func TestExample3(t *testing.T) {
	for _, bits := range []int{8, 9, 12} {
		r := newRig(t, bits)
		top := kTwin(bits, nothing)
		root := hashOf(bits, top)
		for _, at := range []aim{to("k"), to(""), overAll(), over(within("k", "l"))} {
			r.finds("example 3", []string{top}, root, at, top, nothing)
		}
		if value, is, e := verify.Verify(r.book, root, []byte("k"), []byte{0xc0}); len(value) != 0 || is || e != api.OK {
			t.Errorf("example 3: verify tells %q, %v, %d", value, is, e)
		}
		if l, e := span.Verify(r.book, root, api.Bounds{Open: true}, []byte{0xc0}); len(l) != 0 || e != api.OK {
			t.Errorf("example 3: span tells %q, %d", l, e)
		}
	}
}

func TestExample4(t *testing.T) {
	r := newRig(t, 8)
	root := hashOf(8, kLeaf)
	for _, bytes := range []string{"", "\x80", "\xc0\x00", "\xc1\x80", kLeaf, listOf(kLeaf) + "\x00", "no proof"} {
		r.findsNoneIn("example 4: no proof", []string{kLeaf}, root, to("k"), bytes)
		r.findsNoneIn("example 4: no proof", []string{kLeaf}, root, overAll(), bytes)
	}
	if p, e := extract.Key(nil, [][]byte{[]byte(kLeaf)}, root, make([]byte, 33), nil); p.A != nil || p.B != nil || e != api.ErrHandle {
		t.Errorf("example 4: a nil book: %v, %d", p, e)
	}
	if got := r.ask("example 4", []string{kLeaf}, root, to(sized(33)), listOf(kLeaf)); got != (found{e: api.ErrInput}) {
		t.Errorf("example 4: a key of 33 bytes: %v", got)
	}
}

func TestExample5(t *testing.T) {
	for _, bits := range []int{8, 9, 12} {
		r := newRig(t, bits)
		root, other := hashOf(bits, kLeaf), kTwin(bits, kLeaf)
		for _, at := range []aim{to("k"), to("x"), to(""), overAll(), over(within("", "")), over(within("x", "k"))} {
			for _, bytes := range []string{listOf(kLeaf), listOf(other), "\xc0", "", "\x80", "no proof"} {
				want := found{a: kLeaf, b: other}
				if got := r.ask("example 5", []string{kLeaf, other}, root, at, bytes); got != want {
					t.Errorf("example 5: %v: %v, not %v", at, got, want)
				}
				if got := r.ask("example 5", []string{kLeaf, kLeaf, other}, root, at, bytes); got != want {
					t.Errorf("example 5: %v: %v, not %v", at, got, want)
				}
			}
			r.findsNone("example 5: twice the same", []string{kLeaf, kLeaf}, root, at, kLeaf)
		}
	}
}

// wrongAims may not be.
func wrongAims() []aim {
	return []aim{
		to(sized(33)), to(sized(34)), to(sized(2000)), to(strings.Repeat("\x00", 33)),
		over(from(sized(33))), over(from(sized(1000))), over(within(sized(33), "")), over(within("", sized(33))), over(within(sized(33), sized(33))), over(within(sized(33), sized(32))), over(within(sized(32), sized(33))), over(within("", sized(2000))),
		over(bounds{"", "x", true}), over(bounds{"", "\x00", true}), over(bounds{"a", "b", true}), over(bounds{"b", "a", true}), over(bounds{"", sized(32), true}), over(bounds{"", sized(33), true}), over(bounds{sized(33), "x", true}), over(bounds{sized(32), sized(32), true}),
	}
}

// rightAims may be.
func rightAims() []aim {
	return []aim{
		to(""), to("\x00"), to("k"), to(sized(31)), to(sized(32)), to(strings.Repeat("\xff", 32)),
		over(from("")), over(from(sized(31))), over(from(sized(32))), over(within("", "")), over(within(sized(32), sized(32))), over(within("", sized(32))), over(within(sized(32), "")), over(within("\xff", "\x00")), over(within("k", "l")),
	}
}

// The book is looked for first, then the key or the bounds, whatever else is handed in; beside an error there is no pair, not even an empty one.
func TestErrorsInTheirOrder(t *testing.T) {
	r := newRig(t, 8)
	other := kTwin(8, kLeaf)
	stocks := [][]string{nil, {kLeaf}, {kLeaf, other}, {kTwin(8, nothing)}, {"", "x"}}
	proofs := []string{listOf(kLeaf), listOf(other), "\xc0", "", "\x80"}
	for _, root := range []api.Hash{hashOf(8, kLeaf), emptyRoot(8), {}, {9}} {
		for _, nodes := range stocks {
			for _, bytes := range proofs {
				for _, at := range append(wrongAims(), rightAims()...) {
					in := hand(nodes, at, bytes)
					p, e := extract.Key(nil, in.nodes, root, in.key, in.proof)
					if at.ranged {
						p, e = extract.Span(nil, in.nodes, root, in.b, in.proof)
					}
					if p.A != nil || p.B != nil || e != api.ErrHandle {
						t.Errorf("%v: a nil book: %v, %d", at, p, e)
					}
				}
				for _, at := range wrongAims() {
					if got := r.ask("what may not be", nodes, root, at, bytes); got != (found{e: api.ErrInput}) {
						t.Errorf("%v: %v, not error 2", at, got)
					}
				}
				for _, at := range rightAims() {
					if got := r.ask("what may be", nodes, root, at, bytes); got.e != api.OK && got != none {
						t.Errorf("%v: %v", at, got)
					}
				}
			}
		}
	}
}

// What is refused ahead of the nodes has hashed nothing of them.
func TestRefusedAtOnce(t *testing.T) {
	for _, at := range wrongAims() {
		r := newRig(t, 8)
		r.call([]string{kLeaf, kTwin(8, kLeaf)}, hashOf(8, kLeaf), at, listOf(kLeaf))
		if !r.book.Sound() {
			t.Errorf("%v: the map's strings were hashed", at)
		}
	}
}

// With an error the pair is zero, whatever was met ahead of it.
func TestZeroBesideAnError(t *testing.T) {
	root, nodes := yard(12)
	all := named(nodes, strings.Join(order, " "))
	book := newBook(t, 12)
	in := roomyList(all)
	for n := range len(all) {
		for _, l := range [][]string{all[:n], instead(all, n, "x"), with(all, n, "x"), append(append([]string{}, all...), "x")} {
			p, e := extract.Key(book, in, root, []byte("\x01\x23\x45\x67\x89"), []byte(listOf(l...)))
			q, f := extract.Span(book, in, root, api.Bounds{Open: true}, []byte(listOf(l...)))
			if p.A != nil || p.B != nil || e != api.ErrNone || q.A != nil || q.B != nil || f != api.ErrNone {
				t.Errorf("R2: %v, %d; %v, %d", p, e, q, f)
			}
		}
	}
}

// The empty map: the byte 128 is held against what a proof shows first, and that alone.
func TestEmptyMaps(t *testing.T) {
	for _, bits := range []int{8, 9, 12} {
		r := newRig(t, bits)
		empty := emptyRoot(bits)
		for _, other := range twinsOf(bits, nothing) {
			for _, at := range rightAims() {
				if at.ranged && !at.b.leads("") {
					for _, l := range [][]string{nil, {nothing}, {other}, {other, other}} {
						r.findsNone("18.2: a root that is not gone into", nil, empty, at, l...)
					}
					continue
				}
				r.finds("18.1: the empty map", nil, empty, at, nothing, other, other)
				r.finds("18.1: and more behind", nil, empty, at, nothing, other, other, nothing, "x")
				r.findsNone("18.1: behind the first", nil, empty, at, nothing, other)
				r.findsNone("18.1: behind one of another hash", nil, empty, at, "x", other)
				r.findsNone("18.1: the byte itself", nil, empty, at, nothing)
				r.findsNone("18.1: the byte twice", nil, empty, at, nothing, nothing)
				r.findsNone("18.1: no strings", nil, empty, at)
				r.findsNone("18.1: the byte among the nodes", []string{nothing}, empty, at, nothing)
				r.finds("18.1: the byte among the nodes", []string{nothing, nothing}, empty, at, nothing, other, other)
			}
		}
	}
	for _, bits := range []int{200, 256} {
		r := newRig(t, bits)
		for _, at := range rightAims() {
			for _, s := range []string{nothing, "x", "\x00", "\x81", kLeaf, sized(1024)} {
				r.findsNone("18.1: the empty map, many bits", nil, emptyRoot(bits), at, s)
			}
			r.findsNone("18.1: the empty map, many bits", nil, emptyRoot(bits), at)
		}
	}
}

// No strings, under a root that is the byte's hash and under others, with bounds that leave the root out and with others.
func TestProofsOfNoStrings(t *testing.T) {
	for _, bits := range []int{8, 12, 256} {
		r := newRig(t, bits)
		root, nodes := yard(bits)
		for _, stock := range [][]string{nil, {kLeaf}, {nothing}, {"", "junk"}, named(nodes, strings.Join(order, " "))} {
			for _, at := range append(rightAims(), to("\x01\x24"), over(from("\x01\x24"))) {
				for _, under := range []api.Hash{root, emptyRoot(bits), hashOf(bits, kLeaf), {}, {9}, hashOf(bits, "")} {
					r.findsNone("18.1: no strings", stock, under, at)
				}
			}
		}
		if bits == 256 {
			continue
		}
		for _, other := range twinsOf(bits, nothing) { // the map's own clash, wherever the bounds are
			for _, at := range rightAims() {
				r.finds("18.2: no strings, and a node with the byte's hash", []string{other}, emptyRoot(bits), at, other, nothing)
				r.finds("18.2: no strings, and a node with the byte's hash", []string{other}, api.Hash{9}, at, other, nothing)
			}
		}
	}
}

// A root that is no hash of any string of the map.
func TestRootsOfNoString(t *testing.T) {
	for _, bits := range []int{8, 12, 256} {
		r := newRig(t, bits)
		_, nodes := yard(bits)
		all := named(nodes, strings.Join(order, " "))
		shown := leaf("6b", "another")
		for _, stock := range [][]string{nil, {kLeaf}, all} {
			for _, at := range rightAims() {
				r.findsNone("18.1: a root of the proof's string alone", stock, hashOf(bits, shown), at, shown)
				r.findsNone("18.1: a root of the proof's string alone", stock, hashOf(bits, shown), at, shown, kLeaf)
				r.findsNone("18.1: a root of nobody's", stock, hashOf(bits, "nobody's"), at, shown)
				r.findsNone("18.1: a root of nobody's", stock, hashOf(bits, "nobody's"), at, all...)
			}
		}
		for k := range 256 {
			root := hashOf(bits, kLeaf)
			root[k/8] ^= 1 << (k % 8)
			if root != emptyRoot(bits) {
				r.findsNone("18.1: a root with a bit turned", []string{kLeaf}, root, to("k"), kLeaf)
				r.findsNone("18.2: a root with a bit turned", []string{kLeaf}, root, overAll(), kLeaf)
			}
		}
	}
}
