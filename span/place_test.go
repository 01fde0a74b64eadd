package span_test

import (
	"fmt"
	"strings"
	"testing"

	"cairn/api"
)

// nibble tells the number of a digit.
func nibble(digit byte) int { return strings.IndexByte("0123456789abcdef", digit) }

// sibling is a whole leaf that may stand at a place of so many nibbles.
func sibling(place int) string { return leaf(strings.Repeat("7", place%2), "s") }

// ramp lays what stands at the end of a way under an extension and a branch (as far as the way is long enough for them),
// with one leaf beside it; it tells the root and how many nodes are read ahead of it.
func (r *rig) ramp(way, ref, encoding string) (api.Hash, int) {
	if len(way) == 0 {
		return r.lay(encoding), 0
	}
	last := len(way) - 1
	x := nibble(way[last])
	beside := leaf(strings.Repeat("5", 20+len(way)%2), "beside the way")
	if len(way) > 42 {
		beside = sibling(len(way))
	}
	fork := branch("", kid{x, ref}, kid{(x + 1) % 16, beside})
	if last == 0 {
		return r.lay(fork), 1
	}
	if len(fork) < 32 {
		return r.lay(ext(way[:last], fork)), 1
	}
	return r.lay(ext(way[:last], r.byHash(fork))), 2
}

// keyOf is the key of so many digits, the last of them left out if they are odd.
func keyOf(digits string) string { return unhex(digits[:len(digits)/2*2]) }

// longer is a key behind which no key that begins with this one stands, as far as there is room for it.
func longer(key string) string { return (key + "\xff\xff")[:min(32, len(key)+2)] }

func mayEnd(nibbles int) bool { return nibbles <= 64 && nibbles%2 == 0 }

// looksAt tells whether a path of p nibbles at a place of d is tried out: all at the edges, and some of the others.
func looksAt(d, p int) bool {
	edge := d < 3 || d > 62 || p < 3 || d+p > 62 && d+p < 67
	if testing.Short() {
		return edge && (d+p)%3 > 0
	}
	return edge || (7*d+p)%11 == 0
}

// all does both calls over a trie, within bounds around some keys, and holds them against the model; it tells the error of the whole range.
func (r *rig) all(promise string, root api.Hash, keys ...string) api.Errno {
	r.t.Helper()
	for _, key := range keys {
		for _, b := range []bounds{from(key), within("", key), within(key, key), within(key, longer(key)), within("", longer(key))} {
			r.both(promise, root, b)
		}
	}
	m, _ := r.both(promise, root, from(""))
	return m.e
}

func TestWhereLeavesEnd(t *testing.T) {
	for d := range 66 {
		for p := range 65 {
			if !looksAt(d, p) {
				continue
			}
			r := newRig(t, 256)
			encoding := leaf(deep[d:d+p], long)
			root, ahead := r.ramp(deep[:d], r.byHash(encoding), encoding)
			key := keyOf(deep[:min(d+p, 64)])
			what := fmt.Sprintf("17.1: a leaf of %d nibbles at %d", p, d)
			e := r.all(what, root, key)
			if !mayEnd(d+p) || d > 64 {
				if e != api.ErrNode {
					t.Errorf("%s: %d", what, e)
				}
				continue
			}
			if e != api.OK {
				t.Errorf("%s: %d", what, e)
			}
			if len(key) < 32 {
				r.tells(what, root, within(key, key+"\x00"), ahead+1, key)
			}
		}
	}
}

func TestWhereWholeLeavesEnd(t *testing.T) {
	for d := 1; d <= 65; d++ {
		for p := range 50 {
			if !looksAt(d, p) {
				continue
			}
			r := newRig(t, 256)
			encoding := leaf(deep[d:d+p], "v")
			if len(encoding) >= 32 {
				t.Fatalf("a leaf of %d nibbles does not stand whole", p)
			}
			root, ahead := r.ramp(deep[:d], encoding, encoding)
			key := keyOf(deep[:min(d+p, 64)])
			what := fmt.Sprintf("17.1: a whole leaf of %d nibbles at %d", p, d)
			e := r.all(what, root, key)
			if !mayEnd(d+p) || d > 64 {
				if e != api.ErrNode {
					t.Errorf("%s: %d", what, e)
				}
				continue
			}
			if e != api.OK {
				t.Errorf("%s: %d", what, e)
			}
			if len(key) < 32 {
				r.tells(what, root, within(key, key+"\x00"), ahead, key)
			}
		}
	}
}

func TestWhereExtensionsEnd(t *testing.T) {
	for d := range 66 {
		for p := 1; p <= 64; p++ {
			if !looksAt(d, p) {
				continue
			}
			r := newRig(t, 256)
			below := branch("", kid{2, r.byHash(leaf(strings.Repeat("7", (d+p+1)%2), long))}, kid{3, sibling(d + p + 1)})
			encoding := ext(deep[d:d+p], r.byHash(below))
			root, ahead := r.ramp(deep[:d], r.byHash(encoding), encoding)
			end := deep[:min(d+p, 64)]
			what := fmt.Sprintf("17.1: an extension of %d nibbles at %d", p, d)
			e := r.all(what, root, keyOf(end), keyOf(end + "ff")[:min(32, len(end)/2)])
			if wrong := d+p > 63; wrong != (e == api.ErrNode) || !wrong && e != api.OK {
				t.Errorf("%s: %d", what, e)
			}
			if d+p <= 63 {
				key := unhex(deep[:d+p] + "2" + strings.Repeat("7", (d+p+1)%2))
				if len(key) < 32 {
					r.tells(what, root, within(key, key+"\x00"), ahead+3, key)
				}
			}
		}
	}
}

func TestWhereBranchesStand(t *testing.T) {
	for d := range 66 {
		for _, value := range []string{"", "v", long} {
			for _, beside := range []string{sibling(d + 1), leaf(strings.Repeat("5", 20+(d+1)%2), "beside the way")} {
				if d > 43 {
					beside = sibling(d + 1)
				}
				r := newRig(t, 256)
				encoding := branch(value, kid{2, sibling(d + 1)}, kid{3, beside})
				root, _ := r.ramp(deep[:d], r.ref(encoding), encoding)
				what := fmt.Sprintf("17.1: a branch with the value %.5q at %d", value, d)
				e := r.all(what, root, keyOf(deep[:min(d, 64)]))
				if wrong := d > 63 || value != "" && d%2 == 1; wrong != (e == api.ErrNode) || !wrong && e != api.OK {
					t.Errorf("%s: %d", what, e)
				}
			}
		}
	}
}

// A value at 64 nibbles is an entry, but nothing may stand below it: it is read first, and refused then.
func TestBelowTheLongestKey(t *testing.T) {
	key := keyOf(deep[:64])
	for _, c := range []struct{ what, kid string }{
		{"a leaf by its hash", leaf("", long)},
		{"a leaf by its hash, at a whole byte", leaf("1", long)},
		{"an extension by its hash", ext("1", item(strings.Repeat("h", 32)))},
		{"a branch by its hash", branch("", kid{1, leaf(strings.Repeat("5", 20), "beside the way")}, kid{2, sibling(1)})},
	} {
		r := newRig(t, 256)
		full := branch(long, kid{4, r.byHash(c.kid)})
		root := r.lay(ext(deep[:64], r.byHash(full)))
		what := "17.1: below 64 nibbles stands " + c.what
		r.refused(what, root, from(""), api.ErrNode, 3)
		r.refused(what, root, from(key), api.ErrNode, 3)
		r.tells(what+", not within", root, within("", key), 1)
		r.tells(what+", not within", root, within(key, key), 1)
		next := keyOf(deep[:63] + "1")
		r.refused(what, root, within(key, next), api.ErrNode, 3)
		r.tells(what+", not within", root, from(next), 1)
		r.src.errs[hashOf(256, c.kid)] = api.ErrDown
		r.refused(what+": it is read first", root, from(""), api.ErrDown, 3)
	}
	r := newRig(t, 256)
	root := r.lay(ext(deep[:64], branch("v", kid{4, leaf("", "w")})))
	r.refused("17.1: a whole leaf below 64 nibbles", root, from(""), api.ErrNode, 1)
	r.tells("17.1: a whole leaf below 64 nibbles, not within", root, within("", key), 1)
}

// What may not stand where it stands is refused if the walk goes into it, within the bounds or not; what it does not go into is neither read nor looked at.
func TestNodesThatMayNotStand(t *testing.T) {
	r := newRig(t, 256)
	odd := r.byHash(leaf("12", long)) // at one nibble
	root := r.lay(branch("", kid{2, leaf("1", "left")}, kid{4, odd}, kid{6, leaf("12", "whole")}, kid{8, leaf("1", "right")}))
	r.refused("17.1", root, from(""), api.ErrNode, 2)
	r.tells("17.1: it is not within", root, within("", "\x3f"), 1, "\x21")
	r.refused("17.1: its place begins the upper bound", root, within("", "\x40"), api.ErrNode, 2)
	r.refused("17.1: its place is, its key is not", root, within("", "\x41"), api.ErrNode, 2)
	r.refused("17.1: its place is, its key is not", root, from("\x4f"), api.ErrNode, 2)
	r.refused("17.1: a whole one", root, from("\x50"), api.ErrNode, 1)
	r.refused("17.1: a whole one: its place is within, its key is not", root, from("\x6f"), api.ErrNode, 1)
	r.refused("17.1: a whole one: its place is within, its key is not", root, within("\x50", "\x61"), api.ErrNode, 1)
	r.tells("17.1: a whole one that is not within", root, within("\x50", "\x5f"), 1)
	r.refused("17.1: a whole one whose place begins the upper bound", root, within("\x50", "\x60"), api.ErrNode, 1)
	r.tells("17.1: behind it", root, from("\x70"), 1, "\x81")
}

func TestValuesAtHalfAByte(t *testing.T) {
	r := newRig(t, 256)
	whole, hashed := branch("h", kid{2, leaf("", "v")}), branch(long, kid{2, leaf("", "v")})
	if len(whole) >= 32 {
		t.Fatalf("a branch of %d bytes does not stand whole", len(whole))
	}
	root := r.lay(branch("", kid{1, whole}, kid{2, r.byHash(hashed)}, kid{3, leaf("4", "right")}))
	r.refused("17.1: whole", root, from(""), api.ErrNode, 1)
	r.refused("17.1: whole", root, within("\x12", "\x13"), api.ErrNode, 1)
	r.refused("17.1: by its hash", root, within("\x22", "\x23"), api.ErrNode, 2)
	r.tells("17.1: what stands beside it", root, from("\x30"), 1, "\x34")
	under := r.lay(ext("3", r.byHash(hashed)))
	r.refused("17.1: under an extension", under, from("\x32"), api.ErrNode, 2)
	r.tells("17.1: under an extension, not within", under, from("\x40"), 1)
	r.tells("17.1: under an extension, not within", under, within("", "\x2f"), 1)
	r.refused("17.1: whole under an extension", r.lay(ext("3", whole)), from(""), api.ErrNode, 1)
}

func TestExtensionsWithoutABranch(t *testing.T) {
	r := newRig(t, 256)
	innerExt := ext("34", r.byHash(branch(long, kid{3, sibling(5)})))
	for what, below := range map[string]string{"a leaf": leaf("34", long), "a leaf with the empty path": leaf("", long), "a leaf that ends at half a byte": leaf("3", long), "an extension": innerExt, "an extension beyond 64": ext(deep[:63], item(strings.Repeat("h", 32)))} {
		root := r.lay(ext("12", r.byHash(below)))
		for _, b := range []bounds{from(""), from("\x12\x34"), within("\x12\x99", "\x13"), within("", "\x12\x00")} {
			r.refused("17.1: an extension over "+what, root, b, api.ErrNode, 2)
		}
		r.tells("17.1: what is not gone into is not refused", root, from("\x13"), 1)
		r.tells("17.1: what is not gone into is not refused", root, within("", "\x12"), 1)
		inBranch := r.lay(branch("", kid{1, r.byHash(ext("2", r.byHash(below)))}, kid{7, sibling(1)}))
		r.refused("17.1: in a branch: an extension over "+what, inBranch, from(""), api.ErrNode, 3)
		r.tells("17.1: in a branch: what is not gone into is not refused", inBranch, from("\x13"), 2, "\x77")
		r.tells("17.1: in a branch: what is not gone into is not refused", inBranch, from("\x20"), 1, "\x77")
	}
	for what, below := range map[string]string{"a leaf": leaf("34", "v"), "an extension": ext("3", branch("", kid{4, sibling(4)}, kid{5, sibling(4)})), "nothing": item("")} {
		for _, b := range []bounds{from(""), from("\x13"), within("", "\x12")} { // these bytes are no node at all
			r.refused("17.1: an extension over "+what+", whole", r.lay(ext("12", below)), b, api.ErrNode, 1)
		}
	}
}

func TestShortNodesByTheirHash(t *testing.T) {
	for n := 1; n <= 60; n++ {
		value := strings.Repeat("\xf0", n)
		asLeaf, asBranch := leaf("2", value), branch(value, kid{3, sibling(3)})
		for _, c := range []struct {
			what, encoding string
			root           func(r *rig) api.Hash
		}{
			{"a leaf in a branch", asLeaf, func(r *rig) api.Hash { return r.lay(branch("", kid{1, r.byHash(asLeaf)}, kid{2, sibling(1)})) }},
			{"a leaf in a full branch", asLeaf, func(r *rig) api.Hash { return r.lay(branch("v", kid{1, r.byHash(asLeaf)})) }},
			{"a branch under an extension", asBranch, func(r *rig) api.Hash { return r.lay(ext("12", r.byHash(asBranch))) }},
		} {
			r := newRig(t, 256)
			root := c.root(r)
			what := fmt.Sprintf("17.1: %s, of %d bytes", c.what, len(c.encoding))
			want := api.OK
			if len(c.encoding) < 32 {
				want = api.ErrNode
			}
			if e := r.all(what, root, "\x12"); e != want {
				t.Errorf("%s: %d", what, e)
			}
			v := r.verify(what, root, within("\x12", "\x12\x00"), listOf(r.src.blobs[root], c.encoding))
			if want == api.OK && !v.is(verdict{entries: []pair{{"\x12", value}}}) || want != api.OK && !v.is(proofless) {
				t.Errorf("17.3: %s: %v", what, v)
			}
			r.verify("17.3: not gone into", root, within("", "\x10"), listOf(r.src.blobs[root]))
		}
		r := newRig(t, 256)
		r.tells("17.2: a root may be short", r.lay(leaf("12", value)), from(""), 1, "\x12")
		r.tells("17.2: a root may be short", r.lay(branch(value, kid{3, sibling(1)})), from(""), 1, "", "\x37")
	}
}
