package span_test

import (
	"fmt"
	"slices"
	"strings"
	"testing"

	"cairn/api"
	"cairn/proof"
)

// load is a trie of hand-made nodes: under its root, which has a value, stand a branch of 256 leaves at two places (the same at
// both, and the leaves the same), two leaves of lengths to choose, then, at kid 4, one node more, and at kid 5 another one. All but
// the last are what a proof of everything ahead of kid 5 shows.
type load struct {
	root  api.Hash
	shown []string
	read  int // nodes up to the one at kid 4
}

const most = 131072

// twig is a leaf of that trie, with a value of so many bytes.
func twig(n int, x string) string { return leaf("7", strings.Repeat(x, n)) }

// ofOne tells a branch with so many kids of one hash.
func (r *rig) ofOne(kids int, value, s string) string {
	var out []kid
	for i := range kids {
		out = append(out, kid{i, refTo(r.bits, s)})
	}
	return branch(value, out...)
}

// weigh finds the lengths of the values with which such a trie's shown strings have so many bytes as a proof: of the many leaves,
// of the two, and of the root.
func (r *rig) weigh(size int, last string) (n, a, c, d int) {
	r.t.Helper()
	fixed := 4 + 2*17*len(item(r.ofOne(16, "", last))) + len(item(last))
	sizes := make([]int, 257) // of twigs, in a proof
	for i := range sizes {
		sizes[i] = len(item(twig(i, "\xaa")))
	}
	for d = 1; d < 90; d++ {
		room := size - fixed - len(item(r.ofOne(6, strings.Repeat("\xdd", d), last)))
		for n = 256; n >= 32; n-- {
			for a = 32; a <= 256; a++ {
				rest := room - 512*sizes[n] - sizes[a]
				if c = slices.Index(sizes[32:], rest) + 32; c >= 32 && rest > 0 && sizes[c] == rest {
					return n, a, c, d
				}
			}
		}
	}
	r.t.Fatalf("there is no load of %d bytes", size)
	return
}

// stack lays such a trie, whose shown strings have so many bytes as a proof; the node at kid 4 stands there by its hash.
func (r *rig) stack(size int, last, behind string) load {
	r.t.Helper()
	n, a, c, d := r.weigh(size, last)
	little, first, second := twig(n, "\xaa"), twig(a, "\xbb"), twig(c, "\xcc")
	inner := r.ofOne(16, "", little)
	outer := r.ofOne(16, "", inner)
	top := branch(strings.Repeat("\xdd", d), kid{0, r.byHash(outer)}, kid{1, r.byHash(outer)}, kid{2, r.byHash(first)}, kid{3, r.byHash(second)}, kid{4, r.byHash(last)}, kid{5, refTo(r.bits, behind)})
	r.lay(little)
	r.lay(inner)
	half := append([]string{outer}, slices.Repeat(append([]string{inner}, many(16, little)...), 16)...)
	shown := slices.Concat([]string{top}, half, half, []string{first, second, last})
	if got := len(listOf(shown...)); got != size {
		r.t.Fatalf("a load of %d bytes, not of %d", got, size)
	}
	return load{root: r.lay(top), shown: shown, read: len(shown)}
}

// ahead are the bounds of all that stands ahead of kid 5.
var ahead = within("", "\x4f\xff")

// A proof of as many bytes as one may have, and some of fewer and of more.
func TestProofsOfAllSizes(t *testing.T) {
	for _, size := range []int{66000, 131000, most - 300, most - 2, most - 1, most, most + 1, most + 2, most + 20} {
		r := newRig(t, 256)
		l := r.stack(size, leaf("7", long), leaf("7", "behind"))
		if size > most {
			r.refused(fmt.Sprintf("17.2: %d bytes", size), l.root, ahead, api.ErrFull, l.read)
			if v := r.verify("17.3: too many bytes", l.root, ahead, listOf(l.shown...)); !v.is(proofless) {
				t.Errorf("17.3: a proof of %d bytes: %v", size, v)
			}
			continue
		}
		m, v := r.both(fmt.Sprintf("17.2: %d bytes", size), l.root, ahead)
		if m.e != api.OK || len(m.proof) != size || m.proof != listOf(l.shown...) || len(v.entries) != 516 {
			t.Errorf("17.2: %d bytes: %d, %d bytes, %v", size, m.e, len(m.proof), v)
		}
		if packed, e := proof.Pack(bytesOf(l.shown)); string(packed) != m.proof || e != api.OK {
			t.Errorf("17.2: Pack tells other bytes: %d", e)
		}
	}
}

// Around the lengths at which a string's form grows a byte, each string counts as it is packed.
func TestStringsOfAllLengths(t *testing.T) {
	lengths := map[int]int{}
	for _, n := range []int{29, 51, 52, 53, 54, 249, 250, 251, 252} {
		last := leaf("7", strings.Repeat("v", n))
		lengths[len(last)]++
		for size := most - 1; size <= most+2; size++ {
			r := newRig(t, 256)
			l := r.stack(size, last, leaf("7", "behind"))
			m, _ := r.both("17.2", l.root, ahead)
			if full := size > most; full != (m.e == api.ErrFull) || !full && len(m.proof) != size || len(m.asked) != l.read {
				t.Errorf("17.2: with a string of %d bytes %d bytes in all: %d, %d bytes", len(last), size, m.e, len(m.proof))
			}
		}
	}
	for _, n := range []int{32, 54, 55, 56, 58, 254, 255, 256, 257} {
		if lengths[n] == 0 {
			t.Errorf("there was no string of %d bytes", n)
		}
	}
}

func bytesOf(l []string) [][]byte {
	var out [][]byte
	for _, s := range l {
		out = append(out, []byte(s))
	}
	return out
}

// As soon as there is no room: what stands behind is not read, whatever the source would say of it; bounds that leave enough out have their proof.
func TestNoMoreIsRead(t *testing.T) {
	for _, errs := range []api.Errno{api.OK, api.ErrDown, api.ErrNode, 99} {
		r := newRig(t, 256)
		behind := leaf("7", "behind")
		l := r.stack(most+1, leaf("7", long), behind)
		if errs != api.OK {
			r.src.errs[r.hash(behind)] = errs
		}
		r.refused("17.2: all", l.root, from(""), api.ErrFull, l.read)
		if m, v := r.both("17.2: a node less", l.root, within("", "\x3f\xff")); m.e != api.OK || len(v.entries) != 515 {
			t.Errorf("17.2: without the last node: %d, %v", m.e, v)
		}
		if m, v := r.both("17.2: a half", l.root, within("\x10", "\x20")); m.e != api.OK || len(v.entries) != 256 {
			t.Errorf("17.2: a half: %d, %v", m.e, v)
		}
		r.src.errs[l.root] = api.ErrDown
		r.refused("17.2: an error ahead of it", l.root, from(""), api.ErrDown, 1)
	}
}

// The node that makes it too many: what reading it answers comes first, then ErrFull, then the look at its place.
func TestWhichErrorOfTheLastNode(t *testing.T) {
	hidden := item(strings.Repeat("h", 32))
	for _, c := range []struct {
		what, last string
		full       api.Errno // where there is no room for it
		fits       api.Errno // where there is
	}{
		{"a leaf that may stand there", leaf("7", long), api.ErrFull, api.OK},
		{"a leaf that ends at half a byte", leaf("77", long), api.ErrFull, api.ErrNode},
		{"a leaf of 64 nibbles", leaf(deep[:64], long), api.ErrFull, api.ErrNode},
		{"an extension of 64 nibbles", ext(deep[:64], hidden), api.ErrFull, api.ErrNode},
		{"a branch with a value", branch(long, kid{2, leaf("", "v")}), api.ErrFull, api.ErrNode},
		{"a branch over a whole leaf at half a byte", branch("", kid{2, leaf("7", "v")}, kid{3, leaf(strings.Repeat("7", 22), "w")}), api.ErrFull, api.ErrNode},
		{"bytes that are no node's", strings.Repeat("no node ", 9), api.ErrNode, api.ErrNode},
		{"as many bytes as a string may have, no node's", sized(1024), api.ErrNode, api.ErrNode},
		{"fewer than 32 bytes", leaf("7", "short"), api.ErrNode, api.ErrNode},
		{"31 bytes", leaf("7", strings.Repeat("v", 28)), api.ErrNode, api.ErrNode},
	} {
		for size := most; size <= most+1; size++ {
			r := newRig(t, 256)
			l := r.stack(size, c.last, leaf("7", "behind"))
			what := fmt.Sprintf("17.2: %s, as byte %d", c.what, size)
			want := c.fits
			if size > most {
				want = c.full
			}
			if want == api.OK {
				if m, _ := r.both(what, l.root, ahead); m.e != api.OK {
					t.Errorf("%s: %d", what, m.e)
				}
				continue
			}
			r.refused(what, l.root, ahead, want, l.read)
		}
		r := newRig(t, 256)
		l := r.stack(most+1, c.last, leaf("7", "behind"))
		h := r.hash(c.last)
		r.src.errs[h] = api.ErrDown
		r.refused("17.2: the source's own error at "+c.what, l.root, ahead, api.ErrDown, l.read)
		delete(r.src.errs, h)
		r.src.blobs[h] = leaf("7", long+" of another hash")
		r.refused("17.2: other bytes than the hash's at "+c.what, l.root, ahead, api.ErrNode, l.read)
	}
}

// An extension whose Next is no branch: the Next is laid into the proof first, and there may be no room for it.
func TestNoBranchAndNoRoom(t *testing.T) {
	for _, c := range []struct {
		next string
		fits api.Errno
	}{
		{branch(long, kid{1, leaf("7", "v")}), api.OK}, {leaf("", long), api.ErrNode}, {leaf("77", long), api.ErrNode}, {ext("77", item(strings.Repeat("h", 32))), api.ErrNode},
	} {
		over := ext("7", refTo(256, c.next))
		for extra := -3; extra <= 3; extra++ {
			r := newRig(t, 256)
			l := r.stack(most-len(item(c.next))+extra, over, leaf("7", "behind"))
			r.lay(c.next)
			want := c.fits
			if extra > 0 {
				want = api.ErrFull
			}
			m, _ := r.both("17.2: an extension's Next", l.root, ahead)
			if m.e != want || len(m.asked) != l.read+1 {
				t.Errorf("17.2: an extension over %.8x, %d bytes with it: %d, with %d asked, not %d", c.next, most+extra, m.e, len(m.asked), want)
			}
		}
	}
}

// A trie of many more entries than a proof has room for, out of a few nodes: the walk ends soon.
func TestTriesWithoutAnEnd(t *testing.T) {
	r := newRig(t, 256)
	below := leaf("", long)
	for range 20 {
		var kids []kid
		for i := range 16 {
			kids = append(kids, kid{i, r.byHash(below)})
		}
		below = branch("", kids...)
	}
	root := r.lay(below)
	m, _ := r.both("17.2: sixteen times sixteen times ..", root, from(""))
	if m.e != api.ErrFull || len(m.asked) > 2000 {
		t.Errorf("17.2: %d, with %d asked", m.e, len(m.asked))
	}
	low, high := strings.Repeat("\x11", 9), strings.Repeat("\x11", 10)
	m, v := r.both("17.2: a part of it", root, within(low+"\x05", high))
	if m.e != api.OK || len(v.entries) != 12 {
		t.Errorf("17.2: a part of it: %d, %v", m.e, v)
	}
}

// The greatest map whose whole range is proven, and one with one entry more, whatever the sizes of its values.
func TestMapsThatJustFit(t *testing.T) {
	for _, size := range []int{31, 55, 56, 256} {
		if testing.Short() && size < 256 {
			continue
		}
		entries := map[string]string{}
		key := func(n int) string { return string([]byte{byte(n >> 8), byte(n)}) }
		fits := 0
		for n := 0; ; n += 64 { // first by steps, then one by one
			for i := n; i < n+64; i++ {
				entries[key(i)] = strings.Repeat("v", size)
			}
			if len(plant(256, entries).proof(from(""))) > most {
				break
			}
			fits = n + 64
		}
		for i := fits; i < fits+64; i++ {
			delete(entries, key(i))
		}
		for n := fits; n < fits+64; n++ {
			entries[key(n)] = strings.Repeat("v", size)
			m := plant(256, entries)
			full := len(m.proof(from(""))) > most
			if !full && n%16 > 0 {
				continue
			}
			r := newRig(t, 256)
			r.plant(entries)
			got, v := r.both("17.2", m.root, from(""))
			if full != (got.e == api.ErrFull) || !full && !v.is(m.has(from(""))) {
				t.Errorf("17.2: %d entries of %d bytes: %d", n+1, size, got.e)
			}
			if full {
				if one, _ := r.both("17.2: a part", m.root, from(key(n))); one.e != api.OK {
					t.Errorf("17.2: the last entry alone: %d", one.e)
				}
				break
			}
		}
	}
}
