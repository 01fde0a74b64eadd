package extract_test

import (
	"fmt"
	"math/rand"
	"slices"
	"testing"

	"cairn/api"
)

// anyAims are a few aims; the map's own clash does not hang on them.
func anyAims() []aim {
	return []aim{to("k"), to("\x01\x23"), overAll(), over(within("", "")), over(within("x", "\x01"))}
}

// anyProofs are bytes of which some are no proof; the map's own clash does not hang on them.
func anyProofs() []string {
	return []string{listOf(kLeaf), "\xc0", "", "\x80", "no proof", listOf(kLeaf, kLeaf) + "\x00"}
}

// clashes looks that the map's strings clash so, whatever else is handed in.
func (r *rig) clashes(promise string, nodes []string, a, b string) {
	r.t.Helper()
	for _, root := range []api.Hash{hashOf(r.bits, a), emptyRoot(r.bits), {}, hashOf(r.bits, "nobody's")} {
		for _, at := range anyAims() {
			for _, bytes := range anyProofs() {
				if got := r.ask(promise, nodes, root, at, bytes); got != (found{a: a, b: b}) {
					r.t.Errorf("%s: %v: %v, not %v", promise, at, got, found{a: a, b: b})
				}
			}
		}
	}
}

// isSound looks that the map's strings do not clash.
func (r *rig) isSound(promise string, nodes []string) {
	r.t.Helper()
	for _, root := range []api.Hash{hashOf(r.bits, append(slices.Clone(nodes), "")[0]), emptyRoot(r.bits)} {
		for _, at := range anyAims() {
			for _, bytes := range anyProofs() {
				r.findsNoneIn(promise, nodes, root, at, bytes)
			}
		}
	}
}

// distinct tells strings of a kind with different hashes, none of them the byte's.
func distinct(bits, n int, numbered func(i int) string) []string {
	var out []string
	taken := map[api.Hash]int{emptyRoot(bits): 0}
	for i := 0; len(out) < n; i++ {
		s := numbered(i)
		if _, is := taken[hashOf(bits, s)]; !is {
			taken[hashOf(bits, s)] = i
			out = append(out, s)
		}
	}
	return out
}

func TestTwoNodesClash(t *testing.T) {
	for _, bits := range []int{8, 12} {
		for _, numbered := range []func(i int) string{asLeaf("6b"), asShort("6b"), asBranch(0), asExt("12"), asJunk} {
			r := newRig(t, bits)
			l := distinct(bits, 4, numbered)
			r.isSound("18: no two with one hash", l)
			a := l[2]
			for _, b := range twinsOf(bits, a)[:4] {
				r.clashes("18: two nodes", []string{a, b}, a, b)
				r.clashes("18: the other way round", []string{b, a}, b, a)
				r.clashes("18: others among them", []string{l[0], a, l[1], b, l[3]}, a, b)
				r.clashes("18: the same ones among them", []string{a, l[0], a, a, b, b, a}, a, b)
			}
		}
	}
}

func TestANodeAndTheByteClash(t *testing.T) {
	for _, bits := range []int{8, 12} {
		r := newRig(t, bits)
		l := distinct(bits, 3, asLeaf("6b"))
		twins := twinsOf(bits, nothing)
		for _, a := range twins {
			r.clashes("18: a node and the byte", []string{a}, a, nothing)
			r.clashes("18: others among them", []string{l[0], a, l[1]}, a, nothing)
			r.clashes("18: twice the same", []string{a, a}, a, nothing)
			r.clashes("18: the byte among the nodes", []string{nothing, a}, nothing, a)
			r.clashes("18: the byte among the nodes", []string{l[0], a, nothing, l[1]}, a, nothing)
		}
		r.clashes("18: two of the byte's hash", twins[:2], twins[0], twins[1])
		other := another(bits, hashOf(bits, l[0]), asJunk)
		r.clashes("18: the byte stands behind all nodes", []string{twins[0], l[0], other}, l[0], other)
		r.isSound("18: the byte alone", []string{nothing})
		r.isSound("18: the byte twice", []string{nothing, l[0], nothing})
	}
}

func TestSeveralOfOneHash(t *testing.T) {
	for _, bits := range []int{8, 12} {
		r := newRig(t, bits)
		l := distinct(bits, 2, asLeaf("6b"))
		x, y := l[0], l[1]
		one, other := twinsOf(bits, x), twinsOf(bits, y)
		x2, x3, y2 := one[0], one[1], other[0]
		r.clashes("18: three of one hash", []string{x, x2, x3}, x, x2)
		r.clashes("18: three of one hash", []string{x3, x, x2}, x3, x)
		r.clashes("18: three of one hash, the first one again", []string{x, x, x2, x, x3}, x, x2)
		r.clashes("18: all of one hash", append([]string{x}, one...), x, x2)
		r.clashes("18: two hashes, one within the other", []string{x, y, y2, x2}, y, y2)
		r.clashes("18: two hashes, crossed", []string{x, y, x2, y2}, x, x2)
		r.clashes("18: two hashes, one behind the other", []string{y, y2, x, x2}, y, y2)
		r.clashes("18: the same ones ahead", []string{x, x, y, y, y2, x2, x3}, y, y2)
	}
}

// All orders of some strings: the answer hangs on the order where there is a clash, and does not where there is none.
func TestOrdersOfNodes(t *testing.T) {
	const bits = 12
	r := newRig(t, bits)
	root, nodes := yard(bits)
	x := nodes["side"]
	twin := another(bits, hashOf(bits, x), asLeaf("44"), x)
	sound := named(nodes, "top over fork side")
	clashing := []string{nothing, x, twin, another(bits, hashOf(bits, x), asJunk)}
	seen := map[found]int{}
	var all func(done, left []string, look func(l []string))
	all = func(done, left []string, look func(l []string)) {
		if len(left) == 0 {
			look(done)
		}
		for i := range left {
			all(append(slices.Clone(done), left[i]), without(left, i), look)
		}
	}
	all(nil, append(slices.Clone(sound), sound[0]), func(l []string) {
		for _, at := range []aim{to("\x01\x24\x44"), over(within("\x01\x24", "\x01\x25"))} {
			r.findsNone("18.1: in any order", l, root, at, sound...)
			r.finds("18.1: in any order", l, root, at, x, twin, instead(sound, 3, twin)...)
		}
	})
	all(nil, clashing, func(l []string) {
		seen[r.ask("18: in any order", l, root, to("k"), listOf(sound...))]++
	})
	if len(seen) != 6 { // three of one hash: each of them first, each other one second
		t.Errorf("18: of three strings with one hash there are %d answers in all orders", len(seen))
	}
}

// nodes are any strings: the empty one, very long ones, no node's.
func TestAnyStringsAsNodes(t *testing.T) {
	for _, bits := range []int{8, 12} {
		r := newRig(t, bits)
		big := sized(5000)
		for _, a := range []string{"", "x", big, listOf(kLeaf), "\xc0"} {
			b := another(bits, hashOf(bits, a), asJunk)
			r.clashes("18: any strings", []string{a, b}, a, b)
			r.clashes("18: any strings", []string{b, a}, b, a)
			r.isSound("18: any string alone", []string{a, a})
			for _, at := range []aim{to("k"), overAll()} {
				r.finds("18.1: any string under the root", []string{a}, hashOf(bits, a), at, a, b, b)
				r.findsNone("18.1: any string on both sides", []string{b}, hashOf(bits, b), at, b)
			}
		}
	}
	r := newRig(t, 256)
	r.isSound("18: any strings, many bits", []string{"", "x", "", sized(5000), sized(5000), nothing, kLeaf})
}

// Random lists of strings, by books of all kinds, against every two looked at.
func TestRandomClashes(t *testing.T) {
	rnd := rand.New(rand.NewSource(18))
	clash, sound := 0, 0
	for round := range rounds(900) {
		bits := []int{8, 8, 9, 10, 12, 256}[round%6]
		r := newRig(t, bits)
		var nodes []string
		for range rnd.Intn(60) {
			switch {
			case len(nodes) > 0 && rnd.Intn(4) == 0:
				nodes = append(nodes, nodes[rnd.Intn(len(nodes))])
			default:
				nodes = append(nodes, fmt.Sprint(rnd.Intn(1000)))
			}
		}
		at := someAim(rnd, nil)
		shown := fmt.Sprint(rnd.Intn(1000))
		root := hashOf(bits, shown)
		if got := r.ask("18: random strings", nodes, root, at, listOf(shown)); got.e == api.OK {
			clash++
		} else {
			sound++
		}
	}
	if few := rounds(200); clash < few || sound < few {
		t.Errorf("%d lists clash, %d do not: too few to tell", clash, sound)
	}
}
