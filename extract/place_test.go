package extract_test

import (
	"fmt"
	"strings"
	"testing"

	"cairn/api"
)

// placeBits are those of a book by which twins are soon found; few nodes at a time do not clash by it.
const placeBits = 12

// stretch is a trie of nodes, not always of a map: its strings in the order in which a walk comes by them.
type stretch struct {
	root api.Hash
	l    []string
}

// under lays a stretch under a branch: at kid 1 stands what comes first, at kid 2 what is to be found behind it.
func under(first, behind string, refFirst string) stretch {
	top := branch("", kid{1, refFirst}, kid{2, refTo(placeBits, behind)})
	s := stretch{hashOf(placeBits, top), []string{top, first, behind}}
	if first == "" {
		s.l = []string{top, behind}
	}
	return s
}

// calm tells the first of numbered stretches whose strings do not clash.
func calm(numbered func(salt int) stretch) stretch {
	for salt := 0; ; salt++ {
		s := numbered(salt)
		if _, clash := (&stone{bits: placeBits, nodes: s.l}).ownClash(); !clash {
			return s
		}
	}
}

// target is a leaf that may stand at a place of one nibble, with another one of its hash.
func target() (string, string) {
	s := leaf("5", long)
	return s, another(placeBits, hashOf(placeBits, s), asLeaf("5"), s)
}

// reaches looks whether a walk over a stretch comes to its last string.
func (r *rig) reaches(promise string, s stretch, at aim, does bool) {
	r.t.Helper()
	last := len(s.l) - 1
	twin := another(r.bits, hashOf(r.bits, s.l[last]), asLeaf("5"), s.l[last])
	shown := instead(s.l, last, twin)
	if does {
		r.finds(promise, s.l, s.root, at, s.l[last], twin, shown...)
	} else {
		r.findsNone(promise, s.l, s.root, at, shown...)
	}
	r.findsNone(promise+": the same on both sides", s.l, s.root, at, s.l...)
}

// ramp lays what stands at the end of a way under an extension and a branch (as far as the way is long enough for them), with one
// leaf beside it; it tells the strings that are come by ahead of it, and the root.
func ramp(way, ref, encoding string) (api.Hash, []string) {
	if len(way) == 0 {
		return hashOf(placeBits, encoding), nil
	}
	last := len(way) - 1
	x := strings.IndexByte("0123456789abcdef", way[last])
	fork := branch("", kid{x, ref}, kid{(x + 1) % 16, sibling(len(way))})
	if last == 0 {
		return hashOf(placeBits, fork), []string{fork}
	}
	if len(fork) < 32 {
		top := ext(way[:last], fork)
		return hashOf(placeBits, top), []string{top}
	}
	top := ext(way[:last], refTo(placeBits, fork))
	return hashOf(placeBits, top), []string{top, fork}
}

// keyOf is the key of so many digits, with a zero behind them if they are odd.
func keyOf(digits string) string { return unhex(digits + strings.Repeat("0", len(digits)%2)) }

// A leaf that ends at half a byte, or beyond 64 nibbles, ends a walk; so does one of fewer than 32 bytes that stands by its hash.
func TestWhereLeavesEnd(t *testing.T) {
	behind, _ := target()
	for p := range 65 {
		r := newRig(t, placeBits)
		hashed, whole := leaf(deep[:p], long), leaf(deep[:p], "v")
		right := p%2 == 1 && p <= 63
		what := fmt.Sprintf("18.2: a leaf of %d nibbles at one", p)
		r.reaches(what, under(hashed, behind, refTo(placeBits, hashed)), overAll(), right)
		r.reaches(what+", short, by its hash", under(whole, behind, refTo(placeBits, whole)), overAll(), right && len(whole) >= 32)
		if len(whole) < 32 {
			r.reaches(what+", whole", under("", behind, whole), overAll(), right)
		}
		beyond := under(hashed, behind, refTo(placeBits, hashed))
		beyond.l = []string{beyond.l[0], behind}
		r.reaches(what+": beyond the bounds it is not looked at", beyond, over(from("\x20")), true)
		r.reaches(what+": off the way it is not looked at", beyond, to("\x25"), true)
	}
}

// A node by its hash has at least 32 bytes, else the walk ends there; the root may be shorter.
func TestShortNodesByTheirHash(t *testing.T) {
	behind, twin := target()
	for n := 1; n <= 28; n++ {
		r := newRig(t, placeBits)
		value := strings.Repeat("\xf0", n)
		for what, s := range map[string]string{"a leaf": leaf("2", value), "a branch": branch("", kid{3, sibling(0)}, kid{4, leaf("", value)})} {
			r.reaches(fmt.Sprintf("18.2: %s of %d bytes by its hash", what, len(s)), under(s, behind, refTo(placeBits, s)), overAll(), len(s) >= 32)
			other := another(placeBits, hashOf(placeBits, s), asLeaf("2"), s)
			top := branch("", kid{1, refTo(placeBits, s)}, kid{2, refTo(placeBits, behind)})
			mine := []string{top, s, behind}
			for _, at := range []aim{to("\x12"), overAll()} { // which of two strings are different is asked first
				r.finds("18.1: a short node, another string", mine, hashOf(placeBits, top), at, s, other, top, other, twin)
				r.finds("18.1: another string, a short node", []string{top, other, behind}, hashOf(placeBits, top), at, other, s, top, s, twin)
			}
		}
	}
	r := newRig(t, placeBits) // a root may be short, but then no hash stands in it
	for _, s := range []string{leaf("6b", "v"), branch("v", kid{3, sibling(1)})} {
		other := another(placeBits, hashOf(placeBits, s), asLeaf("6b"), s)
		for _, at := range []aim{to("k"), to(""), overAll()} {
			r.findsNone("18.1: a short root", []string{s}, hashOf(placeBits, s), at, s)
			r.finds("18.1: a short root", []string{s}, hashOf(placeBits, s), at, s, other, other)
		}
	}
}

// A branch with a value at half a byte ends a walk and a way; one without goes on.
func TestValuesAtHalfAByte(t *testing.T) {
	for d := range 65 {
		r := newRig(t, placeBits)
		for _, value := range []string{"", "v", long} {
			below := leaf(strings.Repeat("5", (d+1)%2), long) // at place d + 1, which is beyond all where d is 64
			fork := branch(value, kid{5, refTo(placeBits, below)}, kid{6, sibling(d + 1)})
			root, ahead := ramp(deep[:d], refTo(placeBits, fork), fork)
			s := stretch{root, append(ahead, fork, below)}
			right := value == "" || d%2 == 0
			what := fmt.Sprintf("18.1: a branch with the value %.5q at %d", value, d)
			r.reaches(what, s, overAll(), right)
			if d < 64 {
				r.reaches(what, s, to(keyOf(deep[:d]+"5")), right)
			}
		}
	}
	r := newRig(t, placeBits)
	whole, behind := branch("h", kid{2, sibling(0)}), leaf("5", long)
	if len(whole) >= 32 {
		t.Fatalf("a branch of %d bytes does not stand whole", len(whole))
	}
	r.reaches("18.2: a whole branch with a value at half a byte", under("", behind, whole), overAll(), false)
	r.reaches("18.2: off the way", under("", behind, whole), to("\x25"), true)
	r.reaches("18.2: beyond the bounds", under("", behind, whole), over(from("\x20")), true)
}

// An extension that ends beyond 64 nibbles ends a walk; one that ends there goes on.
func TestWhereExtensionsEnd(t *testing.T) {
	for d := range 66 {
		for p := 1; p <= 64; p++ {
			if edge := d < 2 || p < 2 || d+p > 62 && d+p < 67; !edge || d+p < 62 && (d+p)%7 > 0 {
				continue
			}
			r := newRig(t, placeBits)
			end := deep[:min(d+p, 64)]
			s := calm(func(salt int) stretch {
				below := branch("", kid{5, sibling(d + p + 1)}, kid{6, leaf(strings.Repeat("7", (d+p+1)%2), fmt.Sprintf("number %012d", salt))})
				above := ext(deep[d:d+p], refTo(placeBits, below))
				root, ahead := ramp(deep[:d], refTo(placeBits, above), above)
				return stretch{root, append(ahead, above, below)}
			})
			what := fmt.Sprintf("18.2: an extension of %d nibbles at %d", p, d)
			r.reaches(what, s, overAll(), d+p <= 64)
			if d+p <= 64 {
				r.reaches(what+": a key that begins so", s, to(keyOf(end)), true)
				r.reaches(what+": a key that ends ahead of it", s, to(keyOf(end[:len(end)-2+len(end)%2])), false)
			}
			if key := keyOf(end); d+p > 64 {
				r.reaches(what+": no key goes so far", s, to(key), false)
			}
		}
	}
}

// A node beyond 64 nibbles is read, and is held: what stands below it is not come by.
func TestBeyondTheDeepest(t *testing.T) {
	r := newRig(t, placeBits)
	below := leaf("5", long)
	for what, s := range map[string]string{"a branch": branch("", kid{5, refTo(placeBits, below)}, kid{6, sibling(0)}), "an extension": ext("5", refTo(placeBits, below)), "a leaf": below} {
		fork := branch("", kid{5, refTo(placeBits, s)}, kid{6, refTo(placeBits, leaf("", long))})
		top := ext(deep[:64], refTo(placeBits, fork))
		root := hashOf(placeBits, top)
		r.reaches("18.2: "+what+" at 65 nibbles", stretch{root, []string{top, fork, s}}, overAll(), true)
		r.reaches("18.2: behind "+what+" at 65 nibbles", stretch{root, []string{top, fork, s, leaf("", long)}}, overAll(), false)
		r.reaches("18.1: "+what+" at 65 nibbles, where no key goes", stretch{root, []string{top, fork, s}}, to(keyOf(deep[:64])), false)
		if s != below {
			r.reaches("18.2: below "+what+" at 65 nibbles", stretch{root, []string{top, fork, s, below}}, overAll(), false)
		}
	}
}

// What stands behind an extension must be a branch, else the walk and the way end there.
func TestExtensionsWithoutABranch(t *testing.T) {
	r := newRig(t, placeBits)
	below := leaf("5", long)
	behind := leaf("7", long+"!")
	for what, s := range map[string]struct {
		encoding string
		right    bool
	}{
		"a branch":     {branch("", kid{5, refTo(placeBits, below)}, kid{6, sibling(1)}), true},
		"an extension": {ext("5", refTo(placeBits, branch("", kid{5, refTo(placeBits, below)}, kid{6, sibling(1)}))), false},
		"a leaf":       {leaf("34", long), false},
		"a right leaf": {leaf("", long), false},
		"no node":      {asJunk(7), false},
		"the byte":     {nothing, false},
	} {
		top := ext("12", refTo(placeBits, s.encoding))
		root := hashOf(placeBits, top)
		r.reaches("18.1: "+what+" itself is held", stretch{root, []string{top, s.encoding}}, to("\x12\x34"), true)
		l := []string{top, s.encoding, below}
		if what == "an extension" {
			l = []string{top, s.encoding, branch("", kid{5, refTo(placeBits, below)}, kid{6, sibling(1)})}
		}
		for _, at := range []aim{to("\x12\x55"), overAll(), over(within("\x12\x50", "\x12\x60"))} {
			r.reaches("18.1: below "+what, stretch{root, l}, at, s.right)
		}
		if s.right || s.encoding == nothing {
			continue
		}
		short := ext("2", refTo(placeBits, s.encoding))
		fork := branch("", kid{1, refTo(placeBits, short)}, kid{2, refTo(placeBits, behind)})
		full := []string{fork, short, s.encoding, behind}
		r.reaches("18.2: behind an extension over "+what, stretch{hashOf(placeBits, fork), full}, overAll(), false)
		r.reaches("18.2: beyond the bounds it is not looked at", stretch{hashOf(placeBits, fork), []string{fork, behind}}, over(from("\x20")), true)
		r.reaches("18.2: beyond the bounds it is not looked at", stretch{hashOf(placeBits, fork), []string{fork, short, behind}}, over(from("\x13")), true)
		r.reaches("18.1: off the way it is not looked at", stretch{hashOf(placeBits, fork), []string{fork, behind}}, to("\x27"), true)
	}
}

// Bytes that are the same on both sides and no node's end a walk.
func TestBytesThatAreNoNode(t *testing.T) {
	behind, _ := target()
	r := newRig(t, placeBits)
	right := leaf("5", long+"?")
	for what, s := range map[string]string{
		"a text":               asJunk(1),
		"a node with a byte":   right + "\x00",
		"a node cut off":       right[:len(right)-1],
		"a branch of one kid":  branch("", kid{5, refTo(placeBits, right)}),
		"a value of 257 bytes": leaf("5", strings.Repeat("v", 257)),
		"no value":             list(item(packedPath("5"+deep[:62], 2)), item("")),
		"a whole leaf below":   ext("5", leaf(deep[:60], "v")),
		"a list of strings":    listOf(right, right),
		"1024 bytes":           sized(1024),
	} {
		if len(s) < 32 {
			s += asJunk(2)
		}
		r.reaches("18.2: behind "+what, under(s, behind, refTo(placeBits, s)), overAll(), false)
		r.reaches("18.2: "+what+" beyond the bounds", stretch{under(s, behind, refTo(placeBits, s)).root, []string{under(s, behind, refTo(placeBits, s)).l[0], behind}}, over(from("\x20")), true)
		for _, at := range []aim{to("\x15"), to(""), overAll()} {
			r.findsNone("18.1: as a root: "+what, []string{s}, hashOf(placeBits, s), at, s)
			twin := another(placeBits, hashOf(placeBits, s), asJunk, s)
			r.finds("18.1: as a root: "+what, []string{s}, hashOf(placeBits, s), at, s, twin, twin)
		}
	}
	r.reaches("18.2: behind a right one", under(right, behind, refTo(placeBits, right)), overAll(), true)
}
