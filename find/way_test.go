package find_test

import (
	"fmt"
	"slices"
	"strings"
	"testing"

	"cairn/api"
)

// deep is a way of 64 nibbles, and of some more for what lies beyond.
const deep = "0123456789abcdeffedcba98765432100f1e2d3c4b5a69788796a5b4c3d2e1f0" + "123456789abcdef0123456789abcdef0123456789abcdef0123456789abcdef01234567"

// sibling is what stands beside the way in branches that have nothing else.
const sibling = "\xc2\x20\x73"

// nibble tells the number of a digit.
func nibble(digit byte) int { return strings.IndexByte("0123456789abcdef", digit) }

// fork is a branch with one thing on the way and one beside it.
func fork(digit byte, ref string) string {
	x := nibble(digit)
	return branch("", kid{x, ref}, kid{(x + 1) % 16, sibling})
}

// ramp lays a node at the end of a way under an extension and a branch (as far as the way is long enough for them), and tells root and how many nodes are read ahead of it.
func (r *rig) ramp(way, ref, encoding string) (api.Hash, int) {
	switch len(way) {
	case 0:
		return r.lay(encoding), 0
	case 1:
		return r.lay(fork(way[0], ref)), 1
	}
	last := len(way) - 1
	return r.lay(ext(way[:last], r.byHash(padded(way[last], ref)))), 2
}

// padded is a branch with one thing on the way that is too long to stand whole.
func padded(digit byte, ref string) string {
	x := nibble(digit)
	return branch("", kid{x, ref}, kid{(x + 1) % 16, leaf(strings.Repeat("5", 20), "beside the way")})
}

// stairs lays a node at the end of a way under branches alone, and tells the root.
func (r *rig) stairs(way, ref, encoding string) api.Hash {
	for i := len(way) - 1; i >= 0; i-- {
		encoding = fork(way[i], ref)
		ref = r.ref(encoding)
	}
	return r.lay(encoding)
}

// keyOf is the key of so many digits, the last of them left out if they are odd.
func keyOf(digits string) string { return unhex(digits[:len(digits)/2*2]) }

func mayEnd(nibbles int) bool { return nibbles <= 64 && nibbles%2 == 0 }

func TestWhereLeavesEnd(t *testing.T) {
	for d := range 65 {
		for p := range 65 {
			r := newRig(t, 256)
			encoding := leaf(deep[d:d+p], long)
			root, ahead := r.ramp(deep[:d], r.byHash(encoding), encoding)
			key := keyOf(deep[:min(d+p, 64)])
			over := keyOf(deep[:64])
			what := fmt.Sprintf("P11.1: a leaf of %d nibbles at %d", p, d)
			if !mayEnd(d + p) {
				if 2*len(key) >= d {
					r.refused(what, root, key, api.ErrNode, ahead+1)
				}
				r.refused(what, root, over, api.ErrNode, ahead+1)
				continue
			}
			r.found(what, root, key, long, ahead+1)
			if d+p < 64 {
				r.nothing(what+", and the key goes on", root, over, ahead+1)
			}
			if p > 1 && d%2 == 0 {
				r.nothing(what+", and the key ends ahead of it", root, keyOf(deep[:d]), ahead+1)
			}
		}
	}
}

func TestWhereWholeLeavesEnd(t *testing.T) {
	for d := 1; d <= 64; d++ {
		for p := range 50 {
			r := newRig(t, 256)
			encoding := leaf(deep[d:d+p], "v")
			if len(encoding) >= 32 {
				t.Fatalf("a leaf of %d nibbles does not stand whole", p)
			}
			root, ahead := r.ramp(deep[:d], encoding, encoding)
			key := keyOf(deep[:min(d+p, 64)])
			what := fmt.Sprintf("P11.1: a whole leaf of %d nibbles at %d", p, d)
			switch {
			case mayEnd(d + p):
				r.found(what, root, key, "v", ahead)
			case 2*len(key) >= d:
				r.refused(what, root, key, api.ErrNode, ahead)
			}
		}
	}
}

// A leaf that may not stand where it stands is refused whatever the key has of it.
func TestLeavesThatMayNotStand(t *testing.T) {
	r := newRig(t, 256)
	odd := leaf("12", long)
	root := r.lay(branch("", kid{4, r.byHash(odd)}, kid{6, leaf("12", "whole")}, kid{7, leaf("1", "right")}))
	for i := range 16 {
		r.refused("P11.1", root, string([]byte{byte(0x40 + i)}), api.ErrNode, 2)
		r.refused("P11.1", root, string([]byte{byte(0x60 + i)}), api.ErrNode, 1)
	}
	r.refused("P11.1", root, "\x41\x23", api.ErrNode, 2)
	r.refused("P11.1", root, "\x61\x20", api.ErrNode, 1)
	r.found("P11.1: what stands beside it", root, "\x71", "right", 1)
	r.nothing("P11.1: what stands beside it", root, "", 1)
	r.nothing("P11.1: what stands beside it", root, "\x81", 1)
}

func TestWhereExtensionsEnd(t *testing.T) {
	for d := range 65 {
		for p := 1; p <= 64; p++ {
			r := newRig(t, 256)
			full := branch(long, kid{3, sibling})
			encoding := ext(deep[d:d+p], r.byHash(full))
			root, ahead := r.ramp(deep[:d], r.byHash(encoding), encoding)
			key := keyOf(deep[:min(d+p, 64)])
			over := keyOf(deep[:64])
			what := fmt.Sprintf("P11.1: an extension of %d nibbles at %d", p, d)
			switch {
			case d+p > 64:
				r.refused(what, root, over, api.ErrNode, ahead+1)
				if d < 64 {
					r.refused(what+", and the key has nothing there", root, over[:31]+"\xfe", api.ErrNode, ahead+1)
				}
			case d+p == 64:
				r.found(what, root, key, long, ahead+2)
			case (d+p)%2 == 0:
				r.found(what, root, key, long, ahead+2)
				r.ask(what, root, over)
			default:
				if 2*len(key) >= d {
					r.nothing(what+", and the key ends within it", root, key, ahead+1)
				}
				r.refused(what+", with a value at half a byte behind it", root, over, api.ErrNode, ahead+2)
			}
		}
	}
}

func TestExtensionsAndTheRest(t *testing.T) {
	r := newRig(t, 256)
	below := branch("at its end", kid{0, leaf("1", "behind")}, kid{15, r.ref(leaf("f", long))})
	root := r.lay(ext("123456", r.byHash(below)))
	r.found("P11.1: the rest is the path", root, "\x12\x34\x56", "at its end", 2)
	r.found("P11.1: the rest goes on", root, "\x12\x34\x56\x01", "behind", 2)
	r.found("P11.1: the rest goes on", root, "\x12\x34\x56\xff", long, 3)
	r.nothing("P11.1: the rest goes on to nothing", root, "\x12\x34\x56\x11", 2)
	for _, key := range []string{"", "\x12", "\x12\x34", "\x02\x34\x56", "\x13\x34\x56", "\x12\x33\x56", "\x12\x34\x46", "\x12\x34\x57", "\x12\x34\x57\x01", "\x56", "\x65\x43\x21"} {
		r.nothing("P11.1: the rest does not begin with the path", root, key, 1)
	}
	r.src.errs[hashOf(256, below)] = api.ErrDown
	r.nothing("P11.1: a node that is not on the way is not asked for", root, "\x12\x34\x57", 1)
	r.refused("P11.1: one that is, is", root, "\x12\x34\x56", api.ErrDown, 2)
}

func TestLeavesAndTheRest(t *testing.T) {
	for _, value := range []string{"v", long} {
		r := newRig(t, 256)
		root := r.lay(leaf("123456", value))
		r.found("P11.1: the rest is the path", root, "\x12\x34\x56", value, 1)
		for _, key := range []string{"", "\x12", "\x12\x34", "\x12\x34\x56\x00", "\x12\x34\x56\x12\x34\x56", "\x02\x34\x56", "\x13\x34\x56", "\x12\x33\x56", "\x12\x34\x46", "\x12\x34\x57"} {
			r.nothing("P11.1: the rest is not the path", root, key, 1)
		}
		root = r.lay(leaf("", value))
		r.found("P11.1: a leaf of the empty path", root, "", value, 1)
		r.nothing("P11.1: a leaf of the empty path", root, "\x00", 1)
	}
}

func TestBranchesAndTheRest(t *testing.T) {
	r := newRig(t, 256)
	var kids []kid
	for i := range 16 {
		switch i % 3 {
		case 0:
			kids = append(kids, kid{i, leaf("7", fmt.Sprint("w", i))})
		case 1:
			kids = append(kids, kid{i, r.byHash(leaf("7", fmt.Sprint(long, i)))})
		}
	}
	full, bare := r.lay(branch("full", kids...)), r.lay(branch("", kids...))
	r.found("P11.1: the rest is empty, and it is Full", full, "", "full", 1)
	r.nothing("P11.1: the rest is empty, and it is not Full", bare, "", 1)
	for _, root := range []api.Hash{full, bare} {
		for i := range 16 {
			key, other := string([]byte{byte(16*i + 7)}), string([]byte{byte(16*i + 6)})
			switch i % 3 {
			case 0:
				r.found("P11.1: a whole kid", root, key, fmt.Sprint("w", i), 1)
				r.nothing("P11.1: a whole kid", root, other, 1)
			case 1:
				r.found("P11.1: a kid by its hash", root, key, fmt.Sprint(long, i), 2)
				r.nothing("P11.1: a kid by its hash", root, other, 2)
			default:
				r.nothing("P11.1: no kid", root, key, 1)
			}
		}
	}
}

func TestWhereFullBranchesStand(t *testing.T) {
	for d := range 65 {
		for _, value := range []string{"", "v", long} {
			r := newRig(t, 256)
			x := nibble(deep[d])
			short := branch(value, kid{(x + 1) % 16, sibling}, kid{(x + 2) % 16, sibling})
			padded := branch(value, kid{(x + 1) % 16, sibling}, kid{(x + 2) % 16, leaf(strings.Repeat("5", 20), "beside the way")})
			key := keyOf(deep[:d])
			for _, root := range []api.Hash{r.stairs(deep[:d], r.ref(short), short), r.stairs(deep[:d], r.byHash(padded), padded)} {
				a := r.ask("P11.1: a branch", root, keyOf(deep[:64]))
				if wrong := value != "" && d%2 == 1; wrong != (a.e == api.ErrNode) || a.e != api.OK && !wrong || d < 64 && a.found {
					t.Errorf("P11.1: a branch with the value %.5q at %d: %v", value, d, a)
				}
				if d%2 == 1 {
					continue
				}
				if a := r.ask("P11.1: a branch", root, key); a.e != api.OK || a.value != value || a.found != (value != "") {
					t.Errorf("P11.1: a branch with the value %.5q at %d, where the key ends: %v", value, d, a)
				}
			}
		}
	}
}

// A value at half a byte is refused whatever the key has behind it.
func TestValuesAtHalfAByte(t *testing.T) {
	r := newRig(t, 256)
	whole := branch("h", kid{2, leaf("", "v")})
	if len(whole) >= 32 {
		t.Fatalf("a branch of %d bytes does not stand whole", len(whole))
	}
	hashed := branch(long, kid{2, leaf("", "v")})
	root := r.lay(branch("", kid{1, whole}, kid{2, r.byHash(hashed)}, kid{3, leaf("4", "right")}))
	for i := range 16 {
		r.refused("P11.1: whole", root, string([]byte{byte(0x10 + i)}), api.ErrNode, 1)
		r.refused("P11.1: by its hash", root, string([]byte{byte(0x20 + i)}), api.ErrNode, 2)
	}
	r.found("P11.1: what stands beside it", root, "\x34", "right", 1)
	under := r.lay(ext("3", r.byHash(hashed)))
	r.refused("P11.1: under an extension", under, "\x32", api.ErrNode, 2)
	r.nothing("P11.1: the key leaves the way ahead of it", under, "\x42", 1)
	r.nothing("P11.1: the key ends ahead of it", under, "", 1)
	r.refused("P11.1: whole under an extension", r.lay(ext("3", whole)), "\x32", api.ErrNode, 1)
}

// What is beyond 64 nibbles is read first, and refused then; what a key does not lead to is not.
func TestBeyondTheLongestKey(t *testing.T) {
	key := keyOf(deep[:64])
	for _, c := range []struct {
		what, encoding string
	}{{"a leaf", leaf("1", long)}, {"a leaf", leaf("12", long)}, {"an extension", ext("1", item(strings.Repeat("h", 32)))}, {"an extension", ext("12", item(strings.Repeat("h", 32)))}} {
		r := newRig(t, 256)
		root, ahead := r.ramp(deep[:64], r.byHash(c.encoding), c.encoding)
		r.refused("P11.1: "+c.what+" beyond 64 nibbles", root, key, api.ErrNode, ahead+1)
		r.nothing("P11.1: "+c.what+" beyond 64 nibbles, beside the way", root, key[:31]+"\xff", 2)
		if len(c.encoding) < 32 {
			t.Errorf("%s is short", c.what)
		}
		r.src.errs[hashOf(256, c.encoding)] = api.ErrDown
		r.refused("P11.1: it is read first", root, key, api.ErrDown, ahead+1)
	}
	r := newRig(t, 256)
	root, ahead := r.ramp(deep[:64], leaf("12", "v"), leaf("12", "v"))
	r.refused("P11.1: a whole leaf beyond 64 nibbles", root, key, api.ErrNode, ahead)
	for _, path := range []string{deep[:64], deep[:63]} {
		r := newRig(t, 256)
		below := branch("", kid{7, leaf("", "v")}, kid{nibble(deep[63]), leaf("", "w")})
		root := r.lay(ext(path, r.ref(below)))
		if len(path) == 64 {
			r.nothing("P11.1: a branch at 64 nibbles that is not Full", root, key, 1)
		} else {
			r.found("P11.1: a branch at 63 nibbles", root, key, "w", 1)
		}
	}
}

func TestExtensionsWithoutABranch(t *testing.T) {
	r := newRig(t, 256)
	rightLeaf := leaf("34", long)
	rightBranch := branch(long, kid{3, sibling})
	innerExt := ext("34", r.byHash(rightBranch))
	for what, below := range map[string]string{"a leaf": rightLeaf, "a leaf with the empty path": leaf("", long), "a leaf that ends at half a byte": leaf("3", long), "an extension": innerExt, "an extension beyond 64": ext(deep[:63], r.byHash(rightBranch))} {
		for _, key := range []string{"\x12\x34", "\x12", "\x12\x34\x30", "\x12\x99"} {
			r.refused("P11.1: an extension over "+what+" by its hash", r.lay(ext("12", r.byHash(below))), key, api.ErrNode, 2)
			inBranch := r.lay(branch("", kid{1, r.byHash(ext("2", r.byHash(below)))}, kid{7, sibling}))
			r.refused("P11.1: in a branch: an extension over "+what+" by its hash", inBranch, key, api.ErrNode, 3)
		}
		r.nothing("P11.1: what is not met is not refused", r.lay(ext("12", r.byHash(below))), "\x13", 1)
		r.nothing("P11.1: what is not met is not refused", r.lay(ext("12", r.byHash(below))), "", 1)
	}
	for what, below := range map[string]string{"a leaf": leaf("34", "v"), "a leaf with the empty path": leaf("", "v"), "an extension": ext("3", branch("", kid{4, sibling}, kid{5, sibling})), "nothing": item("")} {
		for _, key := range []string{"\x12\x34", "\x12", "\x13", ""} { // these bytes are no node at all
			r.refused("P11.1: an extension over "+what+", whole", r.lay(ext("12", below)), key, api.ErrNode, 1)
			inBranch := r.lay(branch("", kid{1, ext("2", below)}, kid{7, sibling}))
			r.refused("P11.1: in a branch: an extension over "+what+", whole", inBranch, key, api.ErrNode, 1)
		}
	}
	r.found("P11.1: an extension over a branch", r.lay(ext("12", r.byHash(rightBranch))), "\x12", long, 2)
	r.found("P11.1: an extension over a whole branch", r.lay(ext("12", branch("v", kid{3, sibling}))), "\x12", "v", 1)
}

func TestShortNodesByTheirHash(t *testing.T) {
	for n := 1; n <= 60; n++ {
		value := strings.Repeat("\xf0", n)
		asLeaf, asBranch := leaf("2", value), branch(value, kid{3, sibling})
		for _, c := range []struct {
			what, encoding string
			root           func(r *rig) api.Hash
			key            string
		}{
			{"a leaf in a branch", asLeaf, func(r *rig) api.Hash { return r.lay(fork('1', r.byHash(asLeaf))) }, "\x12"},
			{"a leaf in a full branch", asLeaf, func(r *rig) api.Hash { return r.lay(branch("v", kid{1, r.byHash(asLeaf)})) }, "\x12"},
			{"a branch under an extension", asBranch, func(r *rig) api.Hash { return r.lay(ext("12", r.byHash(asBranch))) }, "\x12"},
			{"a branch under two branches", asBranch, func(r *rig) api.Hash { return r.stairs("12", r.byHash(asBranch), "") }, "\x12"},
		} {
			r := newRig(t, 256)
			root := c.root(r)
			what := fmt.Sprintf("P11.1: %s, of %d bytes", c.what, len(c.encoding))
			a := r.ask(what, root, c.key)
			if short := len(c.encoding) < 32; short && (a.e != api.ErrNode || a.asked[len(a.asked)-1] != hashOf(256, c.encoding)) || !short && (!a.found || a.value != value) {
				t.Errorf("%s: %v", what, a)
			}
		}
		r := newRig(t, 256)
		r.found("P11.1: a root may be short", r.lay(leaf("12", value)), "\x12", value, 1)
		r.found("P11.1: a root may be short", r.lay(asBranch), "", value, 1)
	}
	r := newRig(t, 256)
	short := branch("", kid{3, sibling}, kid{4, sibling})
	r.refused("P11.1: an extension over a short branch by its hash", r.lay(ext("12", r.byHash(short))), "\x12", api.ErrNode, 2)
	r.refused("P11.1: an extension over a short extension by its hash", r.lay(ext("12", r.byHash(ext("3", short)))), "\x12", api.ErrNode, 2)
	r.found("P11.1: a short extension as a root", r.lay(ext("2", fork('7', leaf("", "v")))), "\x27", "v", 1)
	for _, n := range []int{31, 32} {
		if l := leaf("2", strings.Repeat("\xf0", n-3)); len(l) != n {
			t.Errorf("a leaf that should be of %d bytes has %d", n, len(l))
		}
	}
}

// A hash that stands in a node is read, whatever it is: the empty trie's root, zeros, the root's own.
func TestHashesThatAreReadWhateverTheyAre(t *testing.T) {
	for _, bits := range []int{8, 12, 256} {
		r := newRig(t, bits)
		empty := hashOf(bits, "\x80")
		root := r.lay(branch("", kid{1, item(string(empty[:]))}, kid{2, item(string(make([]byte, 32)))}, kid{3, sibling}))
		r.refused("P11.1: the empty trie's root in a node", root, "\x12", api.ErrNode, 2)
		r.refused("P11.1: zeros in a node", root, "\x22", api.ErrNode, 2)
		r.src.blobs[empty], r.src.blobs[api.Hash{}] = "\x80", ""
		r.refused("P11.1: the empty trie's root in a node", root, "\x12", api.ErrNode, 2)
		r.refused("P11.1: zeros in a node", root, "\x22", api.ErrNode, 2)
		r.src.errs[empty] = api.ErrFull
		r.refused("P11.1: the empty trie's root in a node", root, "\x12", api.ErrFull, 2)
		delete(r.src.errs, empty)
		if bits > 12 {
			continue
		}
		right := leafWithHash(bits, "2", empty)
		r.src.blobs[empty] = right
		r.found("P11.1: a node that has the empty trie's root as its hash", root, "\x12", valueIn(right), 2)
		r.nothing("P11.1: as a root it is the empty trie's", empty, "\x12", 0)
	}
}

// leafWithHash tells a leaf of more than 31 bytes that has this hash.
func leafWithHash(bits int, path string, h api.Hash) string {
	for i := 0; ; i++ {
		if l := leaf(path, fmt.Sprintf("%s, number %010d", long, i)); hashOf(bits, l) == h {
			return l
		}
	}
}

// valueIn tells the value of such a leaf.
func valueIn(encoding string) string { return encoding[strings.Index(encoding, long):] }

// With few bits a node can lead to itself: the key's nibbles run out there too.
func TestNodesThatLeadToThemselves(t *testing.T) {
	for _, bits := range []int{8, 12} {
		r := newRig(t, bits)
		var around string
		for i := 0; ; i++ {
			h := api.Hash{byte(i), byte(i>>8) << 4}
			self := item(string(h[:]))
			around = branch("", kid{1, self}, kid{2, self}, kid{3, leaf(strings.Repeat("4", 20), fmt.Sprint(i))})
			if hashOf(bits, around) == h {
				break
			}
		}
		root := r.lay(around)
		for n := range 33 {
			r.nothing("P11.1: a node that leads to itself", root, strings.Repeat("\x12", n), 2*n+1)
			r.nothing("P11.1: a node that leads to itself", root, strings.Repeat("\x21", n), 2*n+1)
		}
	}
}

func TestStairs(t *testing.T) {
	for d := range 65 {
		r := newRig(t, 256)
		path := strings.Repeat("6", d%2)
		if d == 64 {
			path = ""
		}
		encoding := leaf(path, long)
		root := r.stairs(deep[:d], r.ref(encoding), encoding)
		key := unhex(deep[:d] + path)
		a := r.ask("P11.1", root, key)
		if !a.found || a.value != long || a.e != api.OK || a.asked[0] != root || a.trail[len(a.trail)-1] != encoding {
			t.Errorf("P11.1: a leaf behind %d branches: %v", d, a)
		}
		if slices.ContainsFunc(a.trail, func(s string) bool { return s != a.trail[0] && len(s) < 32 }) {
			t.Errorf("P11.3: a whole node stands in the trail: %x", a.trail)
		}
		if d > 1 { // the key ends in a branch that is not Full
			r.ask("P11.1", root, keyOf(deep[:d-1]))
		}
	}
}
