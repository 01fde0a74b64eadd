package diff_test

import (
	"fmt"
	"strings"
	"testing"

	"cairn/api"
)

// deep is a way of 64 nibbles, and of some more for what lies beyond.
const deep = "0123456789abcdeffedcba98765432100f1e2d3c4b5a69788796a5b4c3d2e1f0" + "123456789abcdef0123456789abcdef0123456789abcdef0123456789abcdef01234567"

// keyOf is the key of so many digits, the last of them left out if they are odd.
func keyOf(digits string) string { return unhex(digits[:len(digits)/2*2]) }

// sibling is a whole leaf that may stand at a place of so many nibbles.
func sibling(place int) string { return leaf(strings.Repeat("7", place%2), "s") }

// ramp lays what stands at the end of a way under an extension and a branch (as far as the way is long enough for them), with one
// leaf beside it; it tells the root and how many nodes are read ahead of it.
func (r *rig) ramp(way, ref, encoding string) (api.Hash, int) {
	if len(way) == 0 {
		return r.lay(encoding), 0
	}
	last := len(way) - 1
	x := nibble(way[last])
	beside := leaf(strings.Repeat("5", 20+len(way)%2), "beside the way")
	if len(way) > 42 {
		beside = sibling(len(way))
	}
	fork := branch("", kid{x, ref}, kid{(x + 1) % 16, beside})
	if last == 0 {
		return r.lay(fork), 1
	}
	if len(fork) < 32 {
		return r.lay(ext(way[:last], fork)), 1
	}
	return r.lay(ext(way[:last], r.byHash(fork))), 2
}

func mayEnd(nibbles int) bool { return nibbles <= 64 && nibbles%2 == 0 }

// looksAt tells whether a path of p nibbles at a place of d is tried out: all at the edges, and some of the others.
func looksAt(d, p int) bool {
	edge := d < 3 || d > 62 || p < 3 || d+p > 62 && d+p < 67
	if testing.Short() {
		return edge && (d+p)%3 > 0
	}
	return edge || (7*d+p)%11 == 0
}

// stands holds a trie against the empty one, and against others that part with it ahead of the node that is looked at, and beside it:
// it tells the error, the same of all.
func (r *rig) stands(promise string, root api.Hash, way string) api.Errno {
	r.t.Helper()
	_, e := r.both(promise, root, r.empty())
	others := []string{leaf("", "v"), leaf(strings.Repeat("e", 40), long), branch("v", kid{5, r.byHash(leaf("1", long))})}
	if len(way) > 0 && len(way) <= 64 {
		others = append(others, leaf(way[:len(way)/2*2], "on the way"))
	}
	for _, other := range others {
		if _, f := r.both(promise+", beside another trie", root, r.lay(other)); f != e {
			r.t.Errorf("%s: %d, and beside another trie %d", promise, e, f)
		}
	}
	asked := len(r.src.asked)
	if ds, f := r.diff(promise+", beside itself", root, root); len(ds) != 0 || f != api.OK || len(r.src.asked) != 0 {
		r.t.Errorf("24.5: %s, beside itself: %v, %d, with %d and %d read", promise, ds, f, asked, len(r.src.asked))
	}
	return e
}

func (r *rig) wants(promise string, root api.Hash, way string, may bool) {
	r.t.Helper()
	want := api.ErrNode
	if may {
		want = api.OK
	}
	if e := r.stands(promise, root, way); e != want {
		r.t.Errorf("%s: %d, not %d", promise, e, want)
	}
}

func TestWhereLeavesEnd(t *testing.T) {
	t.Parallel()
	for d := range 66 {
		for p := range 65 {
			if !looksAt(d, p) {
				continue
			}
			r := newRig(t, 256)
			encoding := leaf(deep[d:d+p], long)
			root, _ := r.ramp(deep[:d], r.byHash(encoding), encoding)
			r.wants(fmt.Sprintf("24.2: a leaf of %d nibbles at %d", p, d), root, deep[:d], mayEnd(d+p) && d <= 64)
		}
	}
}

func TestWhereWholeLeavesEnd(t *testing.T) {
	t.Parallel()
	for d := 1; d <= 65; d++ {
		for p := range 50 {
			if !looksAt(d, p) {
				continue
			}
			r := newRig(t, 256)
			encoding := leaf(deep[d:d+p], "v")
			if len(encoding) >= 32 {
				t.Fatalf("a leaf of %d nibbles does not stand whole", p)
			}
			root, _ := r.ramp(deep[:d], encoding, encoding)
			r.wants(fmt.Sprintf("24.2: a whole leaf of %d nibbles at %d", p, d), root, deep[:d], mayEnd(d+p) && d <= 64)
		}
	}
}

func TestWhereExtensionsEnd(t *testing.T) {
	t.Parallel()
	for d := range 66 {
		for p := 1; p <= 64; p++ {
			if !looksAt(d, p) {
				continue
			}
			r := newRig(t, 256)
			below := branch("", kid{2, r.byHash(leaf(strings.Repeat("7", (d+p+1)%2), long))}, kid{3, sibling(d + p + 1)})
			encoding := ext(deep[d:d+p], r.byHash(below))
			root, _ := r.ramp(deep[:d], r.byHash(encoding), encoding)
			r.wants(fmt.Sprintf("24.2: an extension of %d nibbles at %d", p, d), root, deep[:d], d+p <= 63)
		}
	}
}

func TestWhereBranchesStand(t *testing.T) {
	t.Parallel()
	for d := range 66 {
		for _, value := range []string{"", "v", long} {
			for _, beside := range []string{sibling(d + 1), leaf(strings.Repeat("5", 20+(d+1)%2), "beside the way")} {
				if d > 43 {
					beside = sibling(d + 1)
				}
				r := newRig(t, 256)
				encoding := branch(value, kid{2, sibling(d + 1)}, kid{3, beside})
				root, _ := r.ramp(deep[:d], r.ref(encoding), encoding)
				r.wants(fmt.Sprintf("24.2: a branch with the value %.5q at %d", value, d), root, deep[:d], d <= 63 && (value == "" || d%2 == 0))
			}
		}
	}
}

// Below a value at 64 nibbles nothing may stand; it is read first, and is then no node that may stand there. Where both have the same
// there, it isn't looked at.
func TestBelowTheLongestKey(t *testing.T) {
	for _, c := range []struct{ what, kid string }{
		{"a leaf by its hash", leaf("", long)},
		{"a leaf by its hash, at a whole byte", leaf("1", long)},
		{"an extension by its hash", ext("1", item(strings.Repeat("h", 32)))},
		{"a branch by its hash", branch("", kid{1, leaf(strings.Repeat("5", 20), "beside the way")}, kid{2, sibling(1)})},
	} {
		r := newRig(t, 256)
		ref := r.byHash(c.kid)
		at := func(value string, kids ...kid) api.Hash {
			return r.lay(ext(deep[:64], r.byHash(branch(value, kids...))))
		}
		old, now, other := at(long, kid{4, ref}), at("v", kid{4, ref}), at("v", kid{5, ref})
		what := "24.2: below 64 nibbles stands " + c.what
		r.tells(what+" on both sides", old, now, 4, delta{keyOf(deep[:64]), long, "v", true, true})
		r.refused(what+" on the old side", old, other, api.ErrNode, 5)
		r.refused(what+" on the new side", other, old, api.ErrNode, 5)
		r.refused(what+" alone", r.empty(), old, api.ErrNode, 3)
		h := hashOf(256, c.kid)
		r.src.errs[h] = api.ErrDown
		r.refused(what+": it is read first", old, other, api.ErrDown, 5)
		r.tells(what+" on both sides, and can't be read", old, now, 4, delta{keyOf(deep[:64]), long, "v", true, true})
	}
	r := newRig(t, 256)
	whole := r.lay(ext(deep[:64], branch("v", kid{4, leaf("", "w")})))
	r.refused("24.2: a whole leaf below 64 nibbles", whole, r.empty(), api.ErrNode, 1)
	r.tells("24.2: a whole leaf below 64 nibbles on both sides", whole, r.lay(ext(deep[:64], branch("u", kid{4, leaf("", "w")}))), 2, delta{keyOf(deep[:64]), "v", "u", true, true})
}

// What may not stand where it stands is refused as it is met, on either side; where both sides have the same there it isn't looked at,
// be it by its hash, whole, or a rest.
func TestNodesThatMayNotStand(t *testing.T) {
	for what, wrong := range map[string]string{
		"a leaf that ends at an odd place":       leaf("12", long),
		"a whole leaf that ends at an odd place": leaf("12", "v"),
		"a branch with a value at an odd place":  branch(long, kid{2, leaf("", "v")}),
		"a whole branch with a value there":      branch("h", kid{2, leaf("", "v")}),
		"a leaf beyond 64 nibbles":               leaf(deep[:64], "v"),
		"an extension beyond 64 nibbles":         ext(deep[:64], item(strings.Repeat("h", 32))),
		"an extension over a leaf":               ext("2", item(string(func() []byte { h := hashOf(256, leaf("", long)); return h[:] }()))),
	} {
		r := newRig(t, 256)
		r.lay(leaf("", long))
		ref := r.ref(wrong)
		at := func(ref string, beside string) api.Hash {
			kids := []kid{{3, leaf("1", beside)}, {7, leaf("1", "z")}}
			if ref != "" {
				kids = append(kids, kid{5, ref})
			}
			return r.lay(branch("", kids...))
		}
		one, two, without := at(ref, "v"), at(ref, "w"), at("", "v")
		right := at(leaf("1", "right"), "v")
		what = "24.2: " + what
		r.tells(what+": on both sides", one, two, 2, delta{"\x31", "v", "w", true, true})
		for _, other := range []api.Hash{without, right, r.empty(), r.lay(leaf("51", "w")), r.lay(leaf("5121", "w")), r.lay(ext("5", r.byHash(branch("", kid{1, leaf("", "x")}, kid{2, leaf("", long)}))))} {
			if _, e := r.both(what, one, other); e != api.ErrNode {
				t.Errorf("%s: %d", what, e)
			}
		}
	}
}

// The same in an extension's Next: it must be a branch, whole (then these bytes are no node at all) or by its hash.
func TestExtensionsWithoutABranch(t *testing.T) {
	r := newRig(t, 256)
	fork := r.byHash(branch(long, kid{3, sibling(5)}))
	for what, below := range map[string]string{"a leaf": leaf("34", long), "a leaf with the empty path": leaf("", long), "a leaf that ends at half a byte": leaf("3", long), "an extension": ext("34", fork), "an extension beyond 64": ext(deep[:63], fork)} {
		what = "24.2: an extension over " + what
		ref := r.byHash(below)
		root := r.lay(ext("12", ref))
		if e := r.stands(what, root, "12"); e != api.ErrNode {
			t.Errorf("%s: %d", what, e)
		}
		if len(r.src.asked) != 0 {
			t.Errorf("%s: %d are read of one root", what, len(r.src.asked))
		}
		inBranch := r.lay(branch("", kid{1, r.byHash(ext("2", ref))}, kid{7, sibling(1)}))
		r.tells(what+", the same on both sides", root, inBranch, 3, delta{"\x77", "", "s", false, true})
		other := r.lay(ext("12", fork))
		r.refused(what+", on the old side", root, other, api.ErrNode, 3)
		r.refused(what+", on the new side", other, root, api.ErrNode, 4)
		r.refused(what+", beside nothing", root, r.empty(), api.ErrNode, 2)
	}
	for what, below := range map[string]string{"a leaf": leaf("34", "v"), "an extension": ext("3", branch("", kid{4, sibling(4)}, kid{5, sibling(4)})), "nothing": item("")} {
		root := r.lay(ext("12", below))
		r.refused("24.2: an extension over "+what+", whole", root, r.empty(), api.ErrNode, 1)
		r.refused("24.2: an extension over "+what+", whole", root, r.lay(leaf("12", "v")), api.ErrNode, 1)
		r.refused("24.2: an extension over "+what+", whole", r.lay(leaf("12", "v")), root, api.ErrNode, 2)
		r.tells("24.5: beside itself, an extension over "+what, root, root, 0)
	}
}

// A kid of a branch on the one side, and an extension's Next on the other: what must be a branch there need be none here.
func TestOneRefUnderTwoKinds(t *testing.T) {
	r := newRig(t, 256)
	asLeaf, asBranch := r.byHash(leaf("4", long)), r.byHash(branch("", kid{4, leaf("", "x")}, kid{5, r.byHash(leaf("", long))}))
	for _, c := range []struct {
		what, ref string
		under     api.Errno
	}{{"a leaf", asLeaf, api.ErrNode}, {"a branch", asBranch, api.OK}} {
		under := r.lay(ext("3", c.ref))
		kids := r.lay(branch("", kid{3, c.ref}, kid{7, sibling(1)}))
		r.tells("24.2: the same ref, "+c.what, under, kids, 2, delta{"\x77", "", "s", false, true})
		if _, e := r.both("24.2: alone under an extension", under, r.empty()); e != c.under {
			t.Errorf("24.2: %s under an extension: %d", c.what, e)
		}
		if _, e := r.both("24.2: alone in a branch", kids, r.empty()); e != api.OK {
			t.Errorf("24.2: %s in a branch: %d", c.what, e)
		}
	}
}

func TestShortNodesByTheirHash(t *testing.T) {
	for n := 1; n <= 60; n++ {
		value := strings.Repeat("\xf0", n)
		asLeaf, asBranch := leaf("2", value), branch(value, kid{3, sibling(3)})
		for _, c := range []struct {
			what, encoding string
			root           func(r *rig) api.Hash
		}{
			{"a leaf in a branch", asLeaf, func(r *rig) api.Hash { return r.lay(branch("", kid{1, r.byHash(asLeaf)}, kid{2, sibling(1)})) }},
			{"a leaf in a full branch", asLeaf, func(r *rig) api.Hash { return r.lay(branch("v", kid{1, r.byHash(asLeaf)})) }},
			{"a branch under an extension", asBranch, func(r *rig) api.Hash { return r.lay(ext("12", r.byHash(asBranch))) }},
		} {
			r := newRig(t, 256)
			r.wants(fmt.Sprintf("24.2: %s, of %d bytes", c.what, len(c.encoding)), c.root(r), "12", len(c.encoding) >= 32)
		}
		r := newRig(t, 256)
		r.tells("24.2: a root may be short", r.lay(leaf("12", value)), r.empty(), 1, delta{"\x12", value, "", true, false})
		r.tells("24.2: a root may be short", r.empty(), r.lay(branch(value, kid{3, sibling(1)})), 1, delta{"", "", value, false, true}, delta{"\x37", "", "s", false, true})
	}
}

// One node, whole on the one side and by its hash on the other: these are not the same, and the hash is read, and is too short.
func TestWholeAndByItsHash(t *testing.T) {
	for _, c := range []struct {
		encoding                string
		oldIsWhole, oldIsByHash int // how many are read
	}{{leaf("2", "v"), 3, 3}, {leaf("", "v"), 2, 3}} { // the latter may not stand there, and whole it is met without reading
		r := newRig(t, 256)
		whole := r.lay(branch("v", kid{1, c.encoding}))
		hashed := r.lay(branch("v", kid{1, r.byHash(c.encoding)}))
		r.refused("24.2: whole, and by its hash", whole, hashed, api.ErrNode, c.oldIsWhole)
		r.refused("24.2: by its hash, and whole", hashed, whole, api.ErrNode, c.oldIsByHash)
	}
}

// A hash that stands in a node is read, whatever it is: the empty trie's root, zeros.
func TestHashesThatAreReadWhateverTheyAre(t *testing.T) {
	for _, bits := range []int{8, 12, 256} {
		r := newRig(t, bits)
		empty := r.empty()
		at := func(ref string) api.Hash {
			return r.lay(branch("", kid{1, ref}, kid{3, sibling(1)}, kid{4, sibling(1)}))
		}
		inNode, zeros, without := at(item(string(empty[:]))), at(item(string(make([]byte, 32)))), at(item(""))
		r.refused("24.2: the empty trie's root in a node", inNode, without, api.ErrAbsent, 3)
		r.refused("24.2: zeros in a node", without, zeros, api.ErrAbsent, 3)
		r.refused("24.2: zeros as a root", without, api.Hash{}, api.ErrAbsent, 2)
		r.refused("24.2: zeros as a root", api.Hash{}, r.empty(), api.ErrAbsent, 1)
		r.src.blobs[empty], r.src.blobs[api.Hash{}] = "\x80", ""
		r.refused("24.2: the empty trie's root in a node", inNode, without, api.ErrNode, 3)
		r.refused("24.2: zeros in a node", zeros, without, api.ErrNode, 3)
		if bits > 12 {
			continue
		}
		r.src.blobs[empty] = leafWithHash(bits, "2", empty)
		if ds, e := r.both("24.2: a node that has the empty trie's root as its hash", inNode, without); len(ds) != 1 || ds[0].key != "\x12" || e != api.OK || len(r.src.asked) != 3 {
			t.Errorf("24.2: a node that has the empty trie's root as its hash: %v, %d", ds, e)
		}
		r.tells("24.2: as a root it is the empty trie's", empty, r.lay(leaf("12", "v")), 1, delta{"\x12", "", "v", false, true})
	}
}

// leafWithHash tells a leaf of more than 31 bytes that has this hash.
func leafWithHash(bits int, path string, h api.Hash) string {
	for i := 0; ; i++ {
		b := leaf(path, fmt.Sprintf("%s %d", long, i))
		if hashOf(bits, b) == h {
			return b
		}
	}
}
