package cursor_test

import (
	"fmt"
	"strings"
	"testing"

	"cairn/api"
)

// deep is a way of 64 nibbles, and of some more for what lies beyond.
const deep = "0123456789abcdeffedcba98765432100f1e2d3c4b5a69788796a5b4c3d2e1f0" + "123456789abcdef0123456789abcdef0123456789abcdef0123456789abcdef01234567"

// nibble tells the number of a digit.
func nibble(digit byte) int { return strings.IndexByte("0123456789abcdef", digit) }

// sibling is a whole leaf that may stand at a place of so many nibbles.
func sibling(place int) string { return leaf(strings.Repeat("7", place%2), "s") }

// ramp lays what stands at the end of a way under an extension and a branch (as far as the way is long enough for them),
// with one leaf beside it; it tells the root and how many nodes are read ahead of it.
func (r *rig) ramp(way, ref, encoding string) (api.Hash, int) {
	if len(way) == 0 {
		return r.lay(encoding), 0
	}
	last := len(way) - 1
	x := nibble(way[last])
	beside := leaf(strings.Repeat("5", 20+len(way)%2), "beside the way")
	if len(way) > 42 {
		beside = sibling(len(way))
	}
	fork := branch("", kid{x, ref}, kid{(x + 1) % 16, beside})
	if last == 0 {
		return r.lay(fork), 1
	}
	if len(fork) < 32 {
		return r.lay(ext(way[:last], fork)), 1
	}
	return r.lay(ext(way[:last], r.byHash(fork))), 2
}

// keyOf is the key of so many digits, the last of them left out if they are odd.
func keyOf(digits string) string { return unhex(digits[:len(digits)/2*2]) }

func mayEnd(nibbles int) bool { return nibbles <= 64 && nibbles%2 == 0 }

// looksAt tells whether a path of p nibbles at a place of d is tried out: all at the edges, and some of the others.
func looksAt(d, p int) bool {
	edge := d < 3 || d > 62 || p < 3 || d+p > 62 && d+p < 67
	if testing.Short() {
		return edge && (d+p)%3 > 0
	}
	return edge || (7*d+p)%11 == 0
}

// all does every call of the layer over a trie, and holds it against the model; it tells the error of the whole scan.
func (r *rig) all(promise string, root api.Hash, keys ...string) api.Errno {
	r.t.Helper()
	_, _, e := r.scan(promise, root, from(""), 99)
	for _, limit := range []int{0, 1, 2} {
		r.scan(promise, root, from(""), limit)
	}
	for _, key := range keys {
		r.scan(promise, root, from(key), 9)
		r.scan(promise, root, within("", key), 9)
		r.scan(promise, root, within(key, (key + "\xff\xff")[:min(32, len(key)+2)]), 9)
	}
	r.stand(root)
	for _, key := range append(keys, "") {
		r.seek(promise, key)
		r.next(promise)
		r.prev(promise)
	}
	r.last(promise)
	r.prev(promise)
	r.next(promise)
	return e
}

func TestWhereLeavesEnd(t *testing.T) {
	for d := range 66 {
		for p := range 65 {
			if !looksAt(d, p) {
				continue
			}
			r := newRig(t, 256)
			encoding := leaf(deep[d:d+p], long)
			root, ahead := r.ramp(deep[:d], r.byHash(encoding), encoding)
			key := keyOf(deep[:min(d+p, 64)])
			what := fmt.Sprintf("13.2: a leaf of %d nibbles at %d", p, d)
			e := r.all(what, root, key)
			if !mayEnd(d+p) || d > 64 {
				if e != api.ErrNode {
					t.Errorf("%s: %d", what, e)
				}
				continue
			}
			if e != api.OK {
				t.Errorf("%s: %d", what, e)
			}
			if e := r.seek(what, key); e != api.OK || r.here != (pair{key, long}) || len(r.src.asked) != ahead+1 {
				t.Errorf("%s: Seek: %d, at %x, with %d read", what, e, r.here.key, len(r.src.asked))
			}
		}
	}
}

func TestWhereWholeLeavesEnd(t *testing.T) {
	for d := 1; d <= 65; d++ {
		for p := range 50 {
			if !looksAt(d, p) {
				continue
			}
			r := newRig(t, 256)
			encoding := leaf(deep[d:d+p], "v")
			if len(encoding) >= 32 {
				t.Fatalf("a leaf of %d nibbles does not stand whole", p)
			}
			root, ahead := r.ramp(deep[:d], encoding, encoding)
			key := keyOf(deep[:min(d+p, 64)])
			what := fmt.Sprintf("13.2: a whole leaf of %d nibbles at %d", p, d)
			e := r.all(what, root, key)
			if !mayEnd(d+p) || d > 64 {
				if e != api.ErrNode {
					t.Errorf("%s: %d", what, e)
				}
				continue
			}
			if e != api.OK {
				t.Errorf("%s: %d", what, e)
			}
			if e := r.seek(what, key); e != api.OK || r.here != (pair{key, "v"}) || len(r.src.asked) != ahead {
				t.Errorf("%s: Seek: %d, at %x, with %d read", what, e, r.here.key, len(r.src.asked))
			}
		}
	}
}

func TestWhereExtensionsEnd(t *testing.T) {
	for d := range 66 {
		for p := 1; p <= 64; p++ {
			if !looksAt(d, p) {
				continue
			}
			r := newRig(t, 256)
			below := branch("", kid{2, r.byHash(leaf(strings.Repeat("7", (d+p+1)%2), long))}, kid{3, sibling(d + p + 1)})
			encoding := ext(deep[d:d+p], r.byHash(below))
			root, ahead := r.ramp(deep[:d], r.byHash(encoding), encoding)
			end := deep[:min(d+p, 64)]
			what := fmt.Sprintf("13.2: an extension of %d nibbles at %d", p, d)
			e := r.all(what, root, keyOf(end), keyOf(end + "ff")[:min(32, len(end)/2)])
			switch {
			case d+p > 63:
				if e != api.ErrNode {
					t.Errorf("%s: %d", what, e)
				}
			case e != api.OK:
				t.Errorf("%s: %d", what, e)
			default:
				key := unhex(deep[:d+p] + "2" + strings.Repeat("7", (d+p+1)%2))
				if e := r.seek(what, keyOf(end)); e != api.OK || r.here != (pair{key, long}) || len(r.src.asked) != ahead+3 {
					t.Errorf("%s: Seek: %d, at %x, with %d read", what, e, r.here.key, len(r.src.asked))
				}
			}
		}
	}
}

func TestWhereBranchesStand(t *testing.T) {
	for d := range 66 {
		for _, value := range []string{"", "v", long} {
			for _, beside := range []string{sibling(d + 1), leaf(strings.Repeat("5", 20+(d+1)%2), "beside the way")} {
				if d > 43 {
					beside = sibling(d + 1)
				}
				r := newRig(t, 256)
				encoding := branch(value, kid{2, sibling(d + 1)}, kid{3, beside})
				root, _ := r.ramp(deep[:d], r.ref(encoding), encoding)
				what := fmt.Sprintf("13.2: a branch with the value %.5q at %d", value, d)
				e := r.all(what, root, keyOf(deep[:min(d, 64)]))
				if wrong := d > 63 || value != "" && d%2 == 1; wrong != (e == api.ErrNode) || !wrong && e != api.OK {
					t.Errorf("%s: %d", what, e)
				}
			}
		}
	}
}

// A value at 64 nibbles is an entry, but nothing may stand below it: forward the value is met first, backward the kids are.
func TestBelowTheLongestKey(t *testing.T) {
	key := keyOf(deep[:64])
	for _, c := range []struct{ what, kid string }{
		{"a leaf by its hash", leaf("", long)},
		{"a leaf by its hash, at a whole byte", leaf("1", long)},
		{"an extension by its hash", ext("1", item(strings.Repeat("h", 32)))},
		{"a branch by its hash", branch("", kid{1, leaf(strings.Repeat("5", 20), "beside the way")}, kid{2, sibling(1)})},
	} {
		r := newRig(t, 256)
		full := branch(long, kid{4, r.byHash(c.kid)})
		root := r.lay(ext(deep[:64], r.byHash(full)))
		r.tells("13.4: below 64 nibbles stands "+c.what, root, from(""), 0, 2, true)
		r.refused("13.4: below 64 nibbles stands "+c.what, root, from(""), 1, api.ErrNode, 3)
		r.tells("13.4: it is not within", root, within("", key), 9, 1, false)
		r.stand(root)
		if e := r.last("13.2"); e != api.ErrNode || len(r.src.asked) != 3 {
			t.Errorf("13.2: Last: %d, with %d read", e, len(r.src.asked))
		}
		if e := r.seek("13.2", key); e != api.OK || r.here.key != key || len(r.src.asked) != 2 {
			t.Errorf("13.2: Seek: %d, with %d read", e, len(r.src.asked))
		}
		if e := r.next("13.2"); e != api.ErrNode || len(r.src.asked) != 3 {
			t.Errorf("13.2: Next: %d, with %d read", e, len(r.src.asked))
		}
		if e := r.prev("13.2"); e != api.ErrEnd || len(r.src.asked) != 1 {
			t.Errorf("13.2: Prev: %d, with %d read", e, len(r.src.asked))
		}
		r.src.errs[hashOf(256, c.kid)] = api.ErrDown
		r.refused("13.4: what is beyond 64 nibbles is read first", root, from(""), 1, api.ErrDown, 3)
		if e := r.next("13.2: what is beyond 64 nibbles is read first"); e != api.ErrDown {
			t.Errorf("13.2: Next: %d", e)
		}
	}
	r := newRig(t, 256)
	root := r.lay(ext(deep[:64], branch("v", kid{4, leaf("", "w")})))
	r.tells("13.4: a whole leaf below 64 nibbles", root, from(""), 0, 1, true)
	r.refused("13.4: a whole leaf below 64 nibbles", root, from(""), 1, api.ErrNode, 1)
}

// What may not stand where it stands is refused if the walk meets it, within the bounds or not; what it does not go into is not.
func TestNodesThatMayNotStand(t *testing.T) {
	r := newRig(t, 256)
	odd := r.byHash(leaf("12", long)) // at one nibble
	root := r.lay(branch("", kid{2, leaf("1", "left")}, kid{4, odd}, kid{6, leaf("12", "whole")}, kid{8, leaf("1", "right")}))
	r.tells("13.4: ahead of it", root, from(""), 0, 1, true)
	r.refused("13.4", root, from(""), 1, api.ErrNode, 2)
	r.tells("13.4: it is not within", root, within("", "\x3f"), 9, 1, false, "\x21")
	r.refused("13.4: its place begins the upper bound", root, within("", "\x40"), 9, api.ErrNode, 2)
	r.refused("13.4: its place is, its key is not", root, within("", "\x41"), 9, api.ErrNode, 2)
	r.refused("13.4: its place is, its key is not", root, from("\x4f"), 9, api.ErrNode, 2)
	r.refused("13.4: a whole one", root, from("\x50"), 9, api.ErrNode, 1)
	r.refused("13.4: a whole one: its place is within, its key is not", root, from("\x6f"), 9, api.ErrNode, 1)
	r.refused("13.4: a whole one: its place is within, its key is not", root, within("\x50", "\x61"), 9, api.ErrNode, 1)
	r.tells("13.4: a whole one that is not within", root, within("\x50", "\x5f"), 9, 1, false)
	r.refused("13.4: a whole one whose place begins the upper bound", root, within("\x50", "\x60"), 9, api.ErrNode, 1)
	r.tells("13.4: behind it", root, from("\x70"), 9, 1, false, "\x81")
	r.stand(root)
	r.last("13.2")
	if e := r.prev("13.2: a whole one is met backward"); e != api.ErrNode || r.here.key != "\x81" {
		t.Errorf("13.2: %d", e)
	}
	r.seek("13.2", "")
	if e := r.next("13.2: one by its hash is met forward"); e != api.ErrNode || r.here.key != "\x21" {
		t.Errorf("13.2: %d", e)
	}
}

func TestValuesAtHalfAByte(t *testing.T) {
	r := newRig(t, 256)
	whole, hashed := branch("h", kid{2, leaf("", "v")}), branch(long, kid{2, leaf("", "v")})
	if len(whole) >= 32 {
		t.Fatalf("a branch of %d bytes does not stand whole", len(whole))
	}
	root := r.lay(branch("", kid{1, whole}, kid{2, r.byHash(hashed)}, kid{3, leaf("4", "right")}))
	r.refused("13.4: whole", root, from(""), 9, api.ErrNode, 1)
	r.refused("13.4: whole", root, within("\x12", "\x13"), 0, api.ErrNode, 1)
	r.refused("13.4: by its hash", root, within("\x22", "\x23"), 0, api.ErrNode, 2)
	r.tells("13.4: what stands beside it", root, from("\x30"), 9, 1, false, "\x34")
	under := r.lay(ext("3", r.byHash(hashed)))
	r.refused("13.4: under an extension", under, from("\x32"), 9, api.ErrNode, 2)
	r.tells("13.4: under an extension, not within", under, from("\x40"), 9, 1, false)
	r.tells("13.4: under an extension, not within", under, within("", "\x2f"), 9, 1, false)
	r.refused("13.4: whole under an extension", r.lay(ext("3", whole)), from(""), 0, api.ErrNode, 1)
}

func TestExtensionsWithoutABranch(t *testing.T) {
	r := newRig(t, 256)
	innerExt := ext("34", r.byHash(branch(long, kid{3, sibling(5)})))
	for what, below := range map[string]string{"a leaf": leaf("34", long), "a leaf with the empty path": leaf("", long), "a leaf that ends at half a byte": leaf("3", long), "an extension": innerExt, "an extension beyond 64": ext(deep[:63], item(strings.Repeat("h", 32)))} {
		root := r.lay(ext("12", r.byHash(below)))
		for _, b := range []bounds{from(""), from("\x12\x34"), within("\x12\x99", "\x13"), within("", "\x12\x00")} {
			r.refused("13.4: an extension over "+what, root, b, 0, api.ErrNode, 2)
		}
		r.tells("13.4: what is not met is not refused", root, from("\x13"), 9, 1, false)
		r.tells("13.4: what is not met is not refused", root, within("", "\x12"), 9, 1, false)
		r.stand(root)
		if e, f := r.last("13.2"), r.seek("13.2", ""); e != api.ErrNode || f != api.ErrNode {
			t.Errorf("13.2: an extension over %s: %d, %d", what, e, f)
		}
		inBranch := r.lay(branch("", kid{1, r.byHash(ext("2", r.byHash(below)))}, kid{7, sibling(1)}))
		r.refused("13.4: in a branch: an extension over "+what, inBranch, from(""), 0, api.ErrNode, 3)
		r.tells("13.4: in a branch: what is not met is not refused", inBranch, from("\x13"), 9, 2, false, "\x77")
		r.tells("13.4: in a branch: what is not met is not refused", inBranch, from("\x20"), 9, 1, false, "\x77")
	}
	for what, below := range map[string]string{"a leaf": leaf("34", "v"), "an extension": ext("3", branch("", kid{4, sibling(4)}, kid{5, sibling(4)})), "nothing": item("")} {
		for _, b := range []bounds{from(""), from("\x13"), within("", "\x12")} { // these bytes are no node at all
			r.refused("13.4: an extension over "+what+", whole", r.lay(ext("12", below)), b, 9, api.ErrNode, 1)
		}
	}
}

func TestShortNodesByTheirHash(t *testing.T) {
	for n := 1; n <= 60; n++ {
		value := strings.Repeat("\xf0", n)
		asLeaf, asBranch := leaf("2", value), branch(value, kid{3, sibling(3)})
		for _, c := range []struct {
			what, encoding string
			root           func(r *rig) api.Hash
		}{
			{"a leaf in a branch", asLeaf, func(r *rig) api.Hash { return r.lay(branch("", kid{1, r.byHash(asLeaf)}, kid{2, sibling(1)})) }},
			{"a leaf in a full branch", asLeaf, func(r *rig) api.Hash { return r.lay(branch("v", kid{1, r.byHash(asLeaf)})) }},
			{"a branch under an extension", asBranch, func(r *rig) api.Hash { return r.lay(ext("12", r.byHash(asBranch))) }},
		} {
			r := newRig(t, 256)
			root := c.root(r)
			what := fmt.Sprintf("13.2: %s, of %d bytes", c.what, len(c.encoding))
			want, met := api.OK, value
			if len(c.encoding) < 32 {
				want, met = api.ErrNode, ""
			}
			if e := r.all(what, root, "\x12"); e != want {
				t.Errorf("%s: %d", what, e)
			}
			r.stand(root)
			if e := r.seek(what, "\x12"); e != want || r.here.value != met {
				t.Errorf("%s: Seek: %d, %q", what, e, r.here.value)
			}
		}
		r := newRig(t, 256)
		r.tells("13.4: a root may be short", r.lay(leaf("12", value)), from(""), 9, 1, false, "\x12")
		r.tells("13.4: a root may be short", r.lay(branch(value, kid{3, sibling(1)})), from(""), 9, 1, false, "", "\x37")
	}
}

// A hash that stands in a node is read, whatever it is: the empty trie's root, zeros.
func TestHashesThatAreReadWhateverTheyAre(t *testing.T) {
	for _, bits := range []int{8, 12, 256} {
		r := newRig(t, bits)
		empty := r.empty()
		root := r.lay(branch("", kid{1, item(string(empty[:]))}, kid{2, item(string(make([]byte, 32)))}, kid{3, sibling(1)}))
		r.refused("13.4: the empty trie's root in a node", root, from(""), 9, api.ErrAbsent, 2)
		r.refused("13.4: zeros in a node", root, from("\x20"), 9, api.ErrAbsent, 2)
		r.src.blobs[empty], r.src.blobs[api.Hash{}] = "\x80", ""
		r.refused("13.4: the empty trie's root in a node", root, from(""), 9, api.ErrNode, 2)
		r.refused("13.4: zeros in a node", root, from("\x20"), 9, api.ErrNode, 2)
		if bits > 12 {
			continue
		}
		right := leafWithHash(bits, "2", empty)
		r.src.blobs[empty] = right
		r.tells("13.4: a node that has the empty trie's root as its hash", root, within("", "\x1f"), 9, 2, false, "\x12")
		r.tells("13.4: as a root it is the empty trie's", empty, from(""), 9, 0, false)
	}
}

// leafWithHash tells a leaf of more than 31 bytes that has this hash.
func leafWithHash(bits int, path string, h api.Hash) string {
	for i := 0; ; i++ {
		if l := leaf(path, fmt.Sprintf("%s, number %010d", long, i)); hashOf(bits, l) == h {
			return l
		}
	}
}

// With few bits a node can lead to itself: the nibbles of the longest key run out there too.
func TestNodesThatLeadToThemselves(t *testing.T) {
	for _, bits := range []int{8, 12} {
		for _, kids := range [][]int{{1, 3}, {3, 1}} {
			r := newRig(t, bits)
			var around string
			for i := 0; ; i++ {
				h := api.Hash{byte(i), byte(i>>8) << 4}
				self := item(string(h[:]))
				around = branch("", kid{kids[0], self}, kid{kids[1], leaf(strings.Repeat("4", 21), fmt.Sprint(i))})
				if hashOf(bits, around) == h {
					break
				}
			}
			root := r.lay(around)
			once := unhex(fmt.Sprint(kids[1]) + strings.Repeat("4", 21))
			if kids[0] < kids[1] {
				r.refused("13.4: a node that leads to itself", root, from(""), 9, api.ErrNode, 66)
				r.tells("13.4: a node that leads to itself", root, from("\x20"), 9, 1, false, once)
			} else {
				r.tells("13.4: a node that leads to itself", root, from(""), 0, 1, true)
				r.refused("13.4: a node that leads to itself, a leaf at half a byte in it", root, from(""), 1, api.ErrNode, 2)
			}
			r.all("13.2: a node that leads to itself", root, once, strings.Repeat("\x11", 32), strings.Repeat("\x33", 32))
		}
	}
}
