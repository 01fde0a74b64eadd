package verify_test

import (
	"fmt"
	"strings"
	"testing"

	"cairn/api"
)

// nibble tells the number of a digit.
func nibble(digit byte) int { return strings.IndexByte("0123456789abcdef", digit) }

// fork is a branch with one thing on the way and one beside it.
func fork(digit byte, ref string) string {
	x := nibble(digit)
	return branch("", kid{x, ref}, kid{(x + 1) % 16, sibling})
}

// padded is a branch with one thing on the way that is too long to stand whole.
func padded(digit byte, ref string) string {
	x := nibble(digit)
	return branch("", kid{x, ref}, kid{(x + 1) % 16, leaf(strings.Repeat("5", 20), "beside the way")})
}

// ramp tells the nodes that lead to what stands at the end of a way: an extension and a branch, as far as the way is long enough for them.
func (r *rig) ramp(way, ref string) []string {
	switch len(way) {
	case 0:
		return nil
	case 1:
		return []string{padded(way[0], ref)}
	}
	last := len(way) - 1
	below := padded(way[last], ref)
	return []string{ext(way[:last], r.byHash(below)), below}
}

// keyOf is the key of so many digits, the last of them left out if they are odd.
func keyOf(digits string) string { return unhex(digits[:len(digits)/2*2]) }

func mayEnd(nibbles int) bool { return nibbles <= 64 && nibbles%2 == 0 }

func TestWhereLeavesEnd(t *testing.T) {
	r := newRig(t, 256)
	for d := range 65 {
		for p := range 65 {
			encoding := leaf(deep[d:d+p], long)
			l := append(r.ramp(deep[:d], r.byHash(encoding)), encoding)
			root := r.hash(l[0])
			key, over := keyOf(deep[:min(d+p, 64)]), keyOf(deep[:64])
			what := fmt.Sprintf("16.3: a leaf of %d nibbles at %d", p, d)
			if !mayEnd(d + p) {
				if 2*len(key) >= d {
					r.refuses(what, root, key, l...)
				}
				r.refuses(what, root, over, l...)
				continue
			}
			r.proves(what, root, key, long, l...)
			if d+p < 64 {
				r.provesNone(what+", and the key goes on", root, over, l...)
			}
			if p > 1 && d%2 == 0 {
				r.provesNone(what+", and the key ends ahead of it", root, keyOf(deep[:d]), l...)
			}
		}
	}
}

func TestWhereWholeLeavesEnd(t *testing.T) {
	r := newRig(t, 256)
	for d := 1; d <= 64; d++ {
		for p := range 50 {
			encoding := leaf(deep[d:d+p], "v")
			if len(encoding) >= 32 {
				t.Fatalf("a leaf of %d nibbles does not stand whole", p)
			}
			l := r.ramp(deep[:d], encoding)
			root := r.hash(l[0])
			key := keyOf(deep[:min(d+p, 64)])
			what := fmt.Sprintf("16.3: a whole leaf of %d nibbles at %d", p, d)
			switch {
			case mayEnd(d + p):
				r.proves(what, root, key, "v", l...)
			case 2*len(key) >= d:
				r.refuses(what, root, key, l...)
			}
		}
	}
}

func TestWhereExtensionsEnd(t *testing.T) {
	r := newRig(t, 256)
	full := branch(long, kid{3, sibling})
	for d := range 65 {
		for p := 1; p <= 64; p++ {
			encoding := ext(deep[d:d+p], r.byHash(full))
			l := append(r.ramp(deep[:d], r.byHash(encoding)), encoding)
			with := append(r.ramp(deep[:d], r.byHash(encoding)), encoding, full)
			root := r.hash(l[0])
			key, over := keyOf(deep[:min(d+p, 64)]), keyOf(deep[:64])
			what := fmt.Sprintf("16.3: an extension of %d nibbles at %d", p, d)
			switch {
			case d+p > 64:
				r.refuses(what, root, over, l...)
				r.refuses(what, root, over, with...)
				if d < 64 {
					r.refuses(what+", and the key has nothing there", root, over[:31]+"\xfe", l...)
				}
			case (d+p)%2 == 0:
				r.proves(what, root, key, long, with...)
				r.refuses(what+", and its branch is not shown", root, key, l...)
				if p > 1 {
					r.provesNone(what+", and the key ends within it", root, keyOf(deep[:d+p-2]), l...)
				}
			default:
				if 2*len(key) >= d {
					r.provesNone(what+", and the key ends within it", root, key, l...)
				}
				r.refuses(what+", with a value at half a byte behind it", root, over, with...)
			}
		}
	}
}

func TestWhereBranchesStand(t *testing.T) {
	r := newRig(t, 256)
	for d := range 65 {
		for _, value := range []string{"", "v", long} {
			x := nibble(deep[d])
			whole := branch(value, kid{(x + 1) % 16, sibling}, kid{(x + 2) % 16, sibling})
			shown := branch(value, kid{(x + 1) % 16, sibling}, kid{(x + 2) % 16, leaf(strings.Repeat("5", 20), "beside the way")})
			l := append(r.ramp(deep[:d], r.byHash(shown)), shown)
			r.branchAt(d, value, l)
			if d > 0 && len(whole) < 32 {
				r.branchAt(d, value, r.ramp(deep[:d], whole))
			}
		}
	}
}

// branchAt looks at a branch with or without a value at the end of d nibbles, of the longest key's way and of that of a key that ends there.
func (r *rig) branchAt(d int, value string, l []string) {
	r.t.Helper()
	root, over := r.hash(l[0]), keyOf(deep[:64])
	what := fmt.Sprintf("16.3: a branch with the value %.5q at %d", value, d)
	switch {
	case d%2 == 1 && value != "":
		r.refuses(what, root, over, l...)
	case d < 64:
		r.provesNone(what, root, over, l...)
	}
	switch {
	case d%2 == 1:
	case value != "":
		r.proves(what+", where the key ends", root, keyOf(deep[:d]), value, l...)
	default:
		r.provesNone(what+", where the key ends", root, keyOf(deep[:d]), l...)
	}
}

// A node that may not stand where it stands is refused whatever the key has of it, and not where a key does not come by.
func TestNodesThatMayNotStand(t *testing.T) {
	r := newRig(t, 256)
	odd, half := leaf("12", long), branch(long, kid{2, leaf("", "v")})
	top := branch("", kid{4, r.byHash(odd)}, kid{5, r.byHash(half)}, kid{6, leaf("12", "whole")}, kid{7, leaf("1", "right")}, kid{8, branch("h", kid{2, leaf("", "v")})})
	root := r.hash(top)
	for i := range 16 {
		r.refuses("16.3: a leaf at half a byte", root, string([]byte{byte(0x40 + i)}), top, odd)
		r.refuses("16.3: a value at half a byte", root, string([]byte{byte(0x50 + i)}), top, half)
		r.refuses("16.3: a whole leaf at half a byte", root, string([]byte{byte(0x60 + i)}), top)
		r.refuses("16.3: a whole value at half a byte", root, string([]byte{byte(0x80 + i)}), top)
	}
	r.refuses("16.3: a leaf at half a byte", root, "\x41\x23", top, odd)
	r.refuses("16.3: a whole leaf at half a byte", root, "\x61\x20", top)
	r.proves("16.3: what stands beside them", root, "\x71", "right", top)
	r.provesNone("16.3: what stands beside them", root, "", top)
	r.provesNone("16.3: what stands beside them", root, "\x91", top)
	for _, root := range []string{leaf("1", "v"), leaf("123", long), leaf(deep[:63], "v")} {
		for _, key := range []string{"", "\x12", "\x10", keyOf(deep[:64])} {
			r.refuses("16.3: a root of half bytes", r.hash(root), key, root)
		}
	}
	under := ext("3", r.byHash(half))
	r.refuses("16.3: under an extension", r.hash(under), "\x32", under, half)
	r.provesNone("16.3: the key leaves the way ahead of it", r.hash(under), "\x42", under)
	r.provesNone("16.3: the key ends ahead of it", r.hash(under), "", under)
}

func TestExtensionsWithoutABranch(t *testing.T) {
	r := newRig(t, 256)
	rightBranch := branch(long, kid{3, sibling})
	for what, below := range map[string]string{"a leaf": leaf("34", long), "a leaf with the empty path": leaf("", long), "a leaf that ends at half a byte": leaf("3", long), "an extension": ext("34", r.byHash(rightBranch)), "an extension beyond 64": ext(deep[:63], r.byHash(rightBranch))} {
		top := ext("12", r.byHash(below))
		inner := ext("2", r.byHash(below))
		outer := branch("", kid{1, r.byHash(inner)}, kid{7, sibling})
		for _, key := range []string{"\x12\x34", "\x12", "\x12\x34\x30", "\x12\x99"} {
			for _, tail := range [][]string{{below}, {below, rightBranch}, {}} {
				r.refuses("16.3: an extension over "+what, r.hash(top), key, append([]string{top}, tail...)...)
				r.refuses("16.3: in a branch: an extension over "+what, r.hash(outer), key, append([]string{outer, inner}, tail...)...)
			}
		}
		r.provesNone("16.3: what is not met is not refused", r.hash(top), "\x13", top)
		r.provesNone("16.3: what is not met is not refused", r.hash(top), "", top)
	}
	for what, below := range map[string]string{"a leaf": leaf("34", "v"), "a leaf with the empty path": leaf("", "v"), "an extension": ext("3", branch("", kid{4, sibling}, kid{5, sibling})), "nothing": item("")} {
		for _, key := range []string{"\x12\x34", "\x12", "\x13", ""} { // these bytes are no node at all
			top := ext("12", below)
			r.refuses("16.3: an extension over "+what+", whole", r.hash(top), key, top)
			outer := branch("", kid{1, ext("2", below)}, kid{7, sibling})
			r.refuses("16.3: in a branch: an extension over "+what+", whole", r.hash(outer), key, outer)
		}
	}
	top := ext("12", r.byHash(rightBranch))
	r.proves("16.3: an extension over a branch", r.hash(top), "\x12", long, top, rightBranch)
}

// A string behind the root's has at least 32 bytes; the root's own may be shorter.
func TestShortStrings(t *testing.T) {
	r := newRig(t, 256)
	lengths := map[int]int{}
	for n := 1; n <= 60; n++ {
		value := strings.Repeat("\xf0", n)
		asLeaf, asBranch := leaf("2", value), branch(value, kid{3, sibling})
		lengths[len(asLeaf)]++
		for what, c := range map[string][]string{
			"a leaf in a branch":          {fork('1', r.byHash(asLeaf)), asLeaf},
			"a leaf in a full branch":     {branch("v", kid{1, r.byHash(asLeaf)}), asLeaf},
			"a branch under an extension": {ext("12", r.byHash(asBranch)), asBranch},
			"a branch under two branches": {fork('1', r.byHash(fork('2', r.byHash(asBranch)))), fork('2', r.byHash(asBranch)), asBranch},
		} {
			last := c[len(c)-1]
			what = fmt.Sprintf("16.3: %s, of %d bytes", what, len(last))
			if len(last) < 32 {
				r.refuses(what, r.hash(c[0]), "\x12", c...)
			} else {
				r.proves(what, r.hash(c[0]), "\x12", value, c...)
			}
		}
		root := leaf("12", value)
		r.proves("16.3: a root may be short", r.hash(root), "\x12", value, root)
		r.proves("16.3: a root may be short", r.hash(asBranch), "", value, asBranch)
	}
	if lengths[31] == 0 || lengths[32] == 0 {
		t.Errorf("no leaf of 31 or of 32 bytes was looked at")
	}
	short := branch("", kid{3, sibling}, kid{4, sibling})
	for what, below := range map[string]string{"a short branch": short, "a short extension": ext("3", short), "the byte 80": "\x80", "the byte c0": "\xc0"} {
		top := ext("12", r.byHash(below))
		r.refuses("16.3: an extension over "+what+" by its hash", r.hash(top), "\x12", top, below)
		r.provesNone("16.3: what is not on the way is not asked for", r.hash(top), "\x13", top)
	}
	root := ext("2", fork('7', leaf("", "v")))
	r.proves("16.3: a short extension as a root", r.hash(root), "\x27", "v", root)
}

// Strings that have the right hash, and are no node's encoding.
func TestStringsThatAreNoNodes(t *testing.T) {
	r := newRig(t, 256)
	right := leaf("9", long)
	for _, b := range []string{"\x00", "\x80", "\xc0", "no node, in more than thirty-one bytes", right + "\x00", right[:len(right)-1], listOf(right), sized(32), sized(1024), strings.Repeat("\xc1", 100), list(item("\x39"), item("")), list(item("\x39"), item(strings.Repeat("v", 257))), list(item("\x39"), item(long), item(long)), branch("", kid{1, r.byHash(right)}), leaf(strings.Repeat("9", 65), long)} {
		top := branch("", kid{1, r.byHash(b)}, kid{2, sibling})
		for _, key := range []string{"\x19", "\x11", "\x19\x99", "\x11\x11"} {
			r.refuses("16.3: below the root", r.hash(top), key, top, b)
			r.refuses("16.3: as the root", r.hash(b), key, b)
		}
		r.refuses("16.3: as the root", r.hash(b), "", b)
		r.refuses("16.3: below an extension", r.hash(ext("19", r.byHash(b))), "\x19", ext("19", r.byHash(b)), b)
		r.provesNone("16.3: what is not on the way is not looked at", r.hash(top), "\x39", top)
	}
	top := branch("", kid{1, r.byHash(right)}, kid{2, sibling})
	r.proves("16.3: a right one", r.hash(top), "\x19", long, top, right)
	r.refuses("16.3: a string of more bytes than one may have", hashOf(256, sized(1025)), "", sized(1025))
	r.refuses("16.3: no bytes", hashOf(256, ""), "", "")
}

// What is beyond the 64th nibble is refused, though its string is shown; what the key does not lead to is not asked for.
func TestBeyondTheLongestKey(t *testing.T) {
	r := newRig(t, 256)
	key := keyOf(deep[:64])
	for p := 1; p <= 64; p++ {
		for _, encoding := range []string{leaf(deep[64:64+p], long), ext(deep[64:64+p], r.byHash(branch(long, kid{3, sibling})))} {
			l := append(r.ramp(deep[:64], r.byHash(encoding)), encoding)
			r.refuses("16.3: beyond 64 nibbles", r.hash(l[0]), key, l...)
			r.refuses("16.3: beyond 64 nibbles", r.hash(l[0]), key, l[:len(l)-1]...)
			r.provesNone("16.3: a key that does not lead there", r.hash(l[0]), "\xff", l[0])
		}
	}
	below := branch("", kid{7, leaf("", "v")}, kid{8, r.byHash(leaf("1", long))})
	top := ext(deep[:64], r.byHash(padded('3', leaf("1", "v"))))
	r.provesNone("16.3: a branch without a value at 64 nibbles", r.hash(top), key, top, padded('3', leaf("1", "v")))
	l := append(r.ramp(deep[:64], r.byHash(below)), below)
	r.provesNone("16.3: a branch without a value at 64 nibbles", r.hash(l[0]), key, l...)
	if got := r.ask("16.3", r.hash(l[0]), key+"\x70", listOf(l...)); got != (verdict{e: api.ErrInput}) {
		t.Errorf("16.3: a key beyond: %v", got)
	}
}
