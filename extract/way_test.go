package extract_test

import (
	"fmt"
	"slices"
	"strings"
	"testing"

	"cairn/api"
	"cairn/proof"
)

// twinBits are the bits of books by which a string with a given hash is soon found, and by which the yard's nodes do not clash.
var twinBits = []int{8, 12}

// yardOf tells the yard, all of whose strings have different hashes.
func yardOf(t *testing.T, bits int) (api.Hash, map[string]string, []string) {
	t.Helper()
	root, nodes := yard(bits)
	all := named(nodes, strings.Join(order, " "))
	taken := map[api.Hash]int{emptyRoot(bits): 0}
	for _, s := range all {
		if len(s) < 32 {
			t.Fatalf("a node of %d bytes does not stand by its hash", len(s))
		}
		taken[hashOf(bits, s)]++
	}
	if len(taken) != 8 {
		t.Fatalf("with %d bits the yard's nodes clash", bits)
	}
	return root, nodes, all
}

// What the map has says nothing wrong: each key and each bounds, with the strings that they need, and with some others.
func TestTheSameStrings(t *testing.T) {
	for _, bits := range []int{8, 12, 256} {
		r := newRig(t, bits)
		root, nodes, all := yardOf(t, bits)
		for _, c := range yardAims() {
			l := named(nodes, c.needs)
			r.findsNone("18.5: the right strings", all, root, c.at, l...)
			r.findsNone("18.5: all of them", all, root, c.at, all...)
			r.findsNone("18.5: one more", all, root, c.at, append(slices.Clone(l), "x")...)
			r.findsNone("18.5: none of them", all, root, c.at)
			for at := range l {
				r.findsNone("18.5: one less", all, root, c.at, without(l, at)...)
				r.findsNone("18.5: the first ones", all, root, c.at, l[:at]...)
				r.findsNone("18.5: the last ones", all, root, c.at, l[at:]...)
				r.findsNone("18.5: one of another hash", all, root, c.at, instead(l, at, "x")...)
				r.findsNone("18.5: one more among them", all, root, c.at, with(l, at, "x")...)
				r.findsNone("18.5: one twice", all, root, c.at, with(l, at, l[at])...)
				r.findsNone("18.5: one that the map has not", slices.Delete(slices.Clone(all), slices.Index(all, l[at]), slices.Index(all, l[at])+1), root, c.at, l...)
			}
		}
	}
}

// In each place that an aim needs: another string of its hash, of whatever kind, with all that follows or without.
func TestAnotherStringInEachPlace(t *testing.T) {
	for _, bits := range twinBits {
		root, nodes, all := yardOf(t, bits)
		twins := map[string][]string{}
		for name, s := range nodes {
			twins[name] = twinsOf(bits, s)
		}
		for _, c := range yardAims() {
			r := newRig(t, bits)
			l := named(nodes, c.needs)
			for at, name := range strings.Fields(c.needs) {
				mine := l[at]
				for k, twin := range twins[name] {
					what := fmt.Sprintf("18.1: %s is another string, of kind %d", name, k)
					r.finds(what, all, root, c.at, mine, twin, instead(l, at, twin)...)
					r.finds(what+", the last", all, root, c.at, mine, twin, append(slices.Clone(l[:at]), twin)...)
					if k > 1 {
						continue
					}
					r.finds(what+", junk behind", all, root, c.at, mine, twin, append(slices.Clone(l[:at]), twin, "x", "y")...)
					r.findsNone(what+", behind the right one", all, root, c.at, with(l, at+1, twin)...)
					if at > 0 {
						r.findsNone(what+", one missing ahead of it", all, root, c.at, without(instead(l, at, twin), at-1)...)
						r.findsNone(what+", one of another hash ahead of it", all, root, c.at, instead(instead(l, at, twin), at-1, "x")...)
						r.findsNone(what+", one that the map has not ahead of it", slices.DeleteFunc(slices.Clone(all), func(s string) bool { return s == l[at-1] }), root, c.at, instead(l, at, twin)...)
					}
					r.findsNone(what+", and the map has none there", slices.DeleteFunc(slices.Clone(all), func(s string) bool { return s == mine }), root, c.at, instead(l, at, twin)...)
					r.finds(what+", and the map has the twin", instead(all, slices.Index(all, mine), twin), root, c.at, twin, mine, l...)
				}
			}
		}
	}
}

// Where two strings are others, the first on the way is told, in whatever order the map has them.
func TestTwoOtherStrings(t *testing.T) {
	for _, bits := range twinBits {
		root, nodes, all := yardOf(t, bits)
		backward := slices.Clone(all)
		slices.Reverse(backward)
		twins := map[string]string{}
		for name, s := range nodes {
			twins[name] = another(bits, hashOf(bits, s), asLeaf("1"), s)
		}
		for _, c := range yardAims() {
			r := newRig(t, bits)
			names := strings.Fields(c.needs)
			l := named(nodes, c.needs)
			for i := range names {
				for k := i + 1; k < len(names); k++ {
					both := instead(instead(l, i, twins[names[i]]), k, twins[names[k]])
					r.finds("18.1: two others", all, root, c.at, l[i], both[i], both...)
					r.finds("18.1: two others", backward, root, c.at, l[i], both[i], both...)
				}
			}
		}
	}
}

// What an aim does not need is not looked at: other strings off the way, or beyond the bounds, are not found.
func TestOtherStringsElsewhere(t *testing.T) {
	for _, bits := range twinBits {
		root, nodes, all := yardOf(t, bits)
		twins := map[string]string{}
		for name, s := range nodes {
			twins[name] = another(bits, hashOf(bits, s), asLeaf("1"), s)
		}
		for _, c := range yardAims() {
			r := newRig(t, bits)
			names := strings.Fields(c.needs)
			l := named(nodes, c.needs)
			for at, name := range order {
				if slices.Contains(names, name) {
					continue
				}
				twin := twins[name]
				r.findsNone("18.1: off the way, behind what is needed", all, root, c.at, append(slices.Clone(l), twin)...)
				if after := slices.IndexFunc(names, func(s string) bool { return slices.Index(order, s) > at }); after >= 0 {
					r.findsNone("18.1: off the way, where the walk over all would come by it", all, root, c.at, with(l, after, twin)...)
				}
				r.findsNone("18.1: off the way, in the proof of all", all, root, c.at, instead(all, at, twin)...)
				r.findsNone("18.1: off the way, in the map", instead(all, at, twin), root, c.at, l...)
			}
		}
	}
}

// A way goes on through whole nodes, and strings are held only where a node stands by its hash.
func TestThroughWholeNodes(t *testing.T) {
	for _, bits := range twinBits {
		r := newRig(t, bits)
		end := leaf("5", long)
		twin := another(bits, hashOf(bits, end), asLeaf("5"), end)
		// A hash stands in no whole node: so below one there is none to be found, and beside one there is.
		small := branch("", kid{3, sibling(0)}, kid{4, sibling(0)})
		top := branch("", kid{1, small}, kid{2, refTo(bits, end)})
		if len(small) >= 32 {
			t.Fatalf("a branch of %d bytes does not stand whole", len(small))
		}
		root := hashOf(bits, top)
		mine := []string{end, top}
		smallTwin := another(bits, hashOf(bits, small), asLeaf("3"), small)
		for _, key := range []string{"\x13", "\x14", "\x15", "\x10\x00", ""} {
			r.findsNone("18.1: at a whole node", mine, root, to(key), top, twin)
			r.findsNone("18.1: at a whole node", mine, root, to(key), top, small)
			r.findsNone("18.1: at a whole node", mine, root, to(key), top, smallTwin)
		}
		r.finds("18.1: beside it", mine, root, to("\x25"), end, twin, top, twin)
		r.finds("18.2: behind it", mine, root, overAll(), end, twin, top, twin)
		r.findsNone("18.2: a whole node as a string", mine, root, overAll(), top, smallTwin, twin)
		r.findsNone("18.2: bounds that leave it out", mine, root, over(within("", "\x1f")), top, twin)
		r.finds("18.2: bounds whose end begins where it stands", mine, root, over(within("", "\x20")), end, twin, top, twin)
		r.finds("18.2: bounds that leave the whole node out", mine, root, over(from("\x20")), end, twin, top, twin)
	}
}

// One node at several places is held at each of them.
func TestOneNodeAtSeveralPlaces(t *testing.T) {
	for _, bits := range twinBits {
		r := newRig(t, bits)
		m := plant(bits, map[string]string{"\x11": long, "\x21": long, "\x31": long, "\x41": "v", "\x51": long})
		l := m.shown(from(""))
		if len(m.nodes()) != 2 || len(l) != 5 {
			t.Fatalf("the trie has %d nodes at %d places", len(m.nodes()), len(l))
		}
		twin := another(bits, hashOf(bits, l[1]), asLeaf("1"), l[1])
		r.findsNone("18.5: one node at four places", m.nodes(), m.root, overAll(), l...)
		for at := 1; at < 5; at++ {
			r.finds("18.2: one node at four places", m.nodes(), m.root, overAll(), l[1], twin, instead(l, at, twin)...)
			r.findsNone("18.2: shown less often", m.nodes(), m.root, overAll(), l[:at]...)
			r.findsNone("18.2: shown more often", m.nodes(), m.root, overAll(), append(slices.Clone(l), twin)...)
		}
		for i, key := range []string{"\x11", "\x21", "\x31", "\x51"} {
			r.finds("18.1: one node at four places", m.nodes(), m.root, to(key), l[1], twin, l[0], twin)
			b := within(key, key+"\x00")
			r.finds("18.2: one of the places", m.nodes(), m.root, over(b), l[1], twin, l[0], twin)
			r.findsNone("18.2: one of the places", m.nodes(), m.root, over(b), l[0], l[1], twin)
			r.finds("18.2: from one of the places on", m.nodes(), m.root, over(from(key)), l[1], twin, append(append([]string{l[0]}, many(3-i, l[1])...), twin)...)
		}
	}
}

// A hash in a node that is the byte's: there the map has that byte, unless a node has its hash.
func TestTheBytesHashInANode(t *testing.T) {
	for _, bits := range twinBits {
		r := newRig(t, bits)
		empty := emptyRoot(bits)
		end := leaf("5", long)
		endTwin := another(bits, hashOf(bits, end), asLeaf("5"), end)
		top := branch("", kid{1, byHash(empty)}, kid{2, refTo(bits, end)})
		root := hashOf(bits, top)
		mine := []string{top, end}
		for _, other := range twinsOf(bits, nothing) {
			r.finds("18.1: the byte's hash in a node", mine, root, to("\x12"), nothing, other, top, other)
			r.finds("18.2: the byte's hash in a node", mine, root, overAll(), nothing, other, top, other, endTwin)
		}
		r.findsNone("18.1: the byte itself is no node", mine, root, to("\x12"), top, nothing)
		r.findsNone("18.2: the byte itself is no node: the walk ends there", mine, root, overAll(), top, nothing, endTwin)
		r.findsNone("18.1: nothing stands for it", mine, root, to("\x12"), top)
		r.findsNone("18.2: nothing stands for it", mine, root, overAll(), top)
		r.findsNone("18.2: nothing stands for it", mine, root, overAll(), top, endTwin)
		r.finds("18.2: beyond it", mine, root, over(from("\x20")), end, endTwin, top, endTwin)
		r.findsNone("18.1: the byte shown, of another hash", mine, root, to("\x25"), top, nothing)
		r.findsNone("18.1: the root shown as the byte", mine, root, to("\x12"), nothing)
	}
}

// With few bits a node can lead to itself: it is held against the proof's strings as often as they show it.
func TestNodesThatLeadToThemselves(t *testing.T) {
	for _, bits := range twinBits {
		around := ""
		var h api.Hash
		for i := 0; ; i++ {
			h = api.Hash{byte(i), byte(i>>8) << 4}
			around = branch("", kid{1, byHash(h)}, kid{2, byHash(h)}, kid{3, leaf(strings.Repeat("4", 21), fmt.Sprint(i))})
			if hashOf(bits, around) == h {
				break
			}
		}
		if h == emptyRoot(bits) {
			t.Fatalf("it has the byte's hash")
		}
		r := newRig(t, bits)
		mine := []string{around}
		twin := another(bits, h, asLeaf("9"), around)
		for n := range 70 {
			key := strings.Repeat("\x12", 32)
			l := append(many(n, around), twin)
			switch { // a key has 64 nibbles: so there are 65 places on its way, and the walk reads one more ahead of its end
			case n <= 64:
				r.finds("18.1: a node that leads to itself", mine, h, to(key), around, twin, l...)
				r.finds("18.2: a node that leads to itself", mine, h, overAll(), around, twin, l...)
			case n == 65:
				r.findsNone("18.1: beyond the key's end", mine, h, to(key), l...)
				r.finds("18.2: it is read beyond 64 nibbles", mine, h, overAll(), around, twin, l...)
			default:
				r.findsNone("18.1: beyond the key's end", mine, h, to(key), l...)
				r.findsNone("18.2: beyond 64 nibbles the walk has ended", mine, h, overAll(), l...)
			}
			r.findsNone("18.5: it alone", mine, h, to(key), many(n, around)...)
			r.findsNone("18.5: it alone", mine, h, overAll(), many(n, around)...)
			if short := key[:n/4]; n > 0 {
				places := 2*len(short) + 1
				l := append(many(places-1, around), twin)
				r.finds("18.1: the last place of a key", mine, h, to(short), around, twin, l...)
				r.findsNone("18.1: behind the last place of a key", mine, h, to(short), with(l, 0, around)...)
			}
		}
	}
}

// Bytes that are no proof's, though all that could be told stands in them.
func TestBytesThatAreNoProof(t *testing.T) {
	const bits = 12
	r := newRig(t, bits)
	root, nodes, all := yardOf(t, bits)
	twin := another(bits, hashOf(bits, nodes["side"]), asLeaf("44"), nodes["side"])
	l := instead(all, len(all)-1, twin)
	b := listOf(l...)
	items := ""
	for _, s := range l {
		items += item(s)
	}
	size := len(items)
	if size < 256 || size > 65535 {
		t.Fatalf("the strings have %d bytes", size)
	}
	r.finds("18.2", all, root, overAll(), nodes["side"], twin, l...)
	wrong := map[string]string{
		"nothing":                   "",
		"a byte behind":             b + "\x00",
		"a list behind":             b + "\xc0",
		"itself behind":             b + b,
		"a byte ahead":              "\x00" + b,
		"a string":                  item(items),
		"without a head":            items,
		"a list in a list":          list(b),
		"the nodes as items":        list(l...),
		"a length in three bytes":   "\xfa\x00" + string([]byte{byte(size / 256), byte(size % 256)}) + items,
		"a length that is one less": "\xf9" + string([]byte{byte((size - 1) / 256), byte((size - 1) % 256)}) + items,
		"a length that is one more": "\xf9" + string([]byte{byte((size + 1) / 256), byte((size + 1) % 256)}) + items,
		"an empty string behind":    list(items, "\x80"),
		"an empty string ahead":     list("\x80", items),
		"an empty list behind":      list(items, "\xc0"),
		"a string that is too long": list(items, item(sized(1025))),
		"a byte in two":             list(items, "\x81\x01"),
		"too many bytes":            listOf(append(slices.Clone(l), many(130, sized(1024))...)...),
		"all but the last byte":     b[:len(b)-1],
		"as a text":                 fmt.Sprintf("%x", b),
	}
	for what, bytes := range wrong {
		if _, e := proof.Unpack([]byte(bytes)); e == api.OK {
			t.Fatalf("%s is a proof", what)
		}
		for _, at := range []aim{to("\x01\x24\x44"), overAll(), over(within("", ""))} {
			r.findsNoneIn("18.1: no proof: "+what, all, root, at, bytes)
			r.findsNoneIn("18.1: no proof, empty map: "+what, nil, emptyRoot(bits), at, bytes)
			if got := r.ask("18: the map's own clash: "+what, append(slices.Clone(all), twin), root, at, bytes); got != (found{a: nodes["side"], b: twin}) {
				t.Errorf("18: the map's own clash comes ahead of %s: %v", what, got)
			}
		}
	}
}

// Proofs of as many bytes as one may have: what is needed comes first, all else is not looked at.
func TestLongProofs(t *testing.T) {
	const bits = 12
	r := newRig(t, bits)
	root, nodes, all := yardOf(t, bits)
	twin := another(bits, hashOf(bits, nodes["end"]), asLeaf("9"), nodes["end"])
	l := instead(all, 5, twin)
	for _, n := range []int{1, 100, 127} {
		r.finds("18.2: strings behind", all, root, overAll(), nodes["end"], twin, append(slices.Clone(l), many(n, sized(1024))...)...)
		r.findsNone("18.2: strings ahead", all, root, overAll(), append(many(n, sized(1024)), l...)...)
	}
	for _, n := range []int{128, 200} {
		r.findsNone("18.2: too many bytes", all, root, overAll(), append(slices.Clone(l), many(n, sized(1024))...)...)
	}
	r.findsNone("18.2: as many strings as can be", all, root, overAll(), many(131068, "x")...)
	r.finds("18.2: many short strings behind", all, root, overAll(), nodes["end"], twin, append(slices.Clone(l), many(100000, "x")...)...)
}

// longMap tells a map whose proof of all entries is nearly as long as one may be, and whose nodes do not clash.
func longMap(bits int) *trie {
	for salt := 0; ; salt++ {
		entries := map[string]string{}
		for i := range 420 {
			entries[fmt.Sprintf("%03d", i)] = fmt.Sprintf("%-200d", 1000*salt+i)
		}
		m := plant(bits, entries)
		s := &stone{bits: bits, nodes: m.nodes()}
		if _, clash := s.ownClash(); !clash {
			return m
		}
	}
}

// A proof that is nearly as long as one may be, each of whose strings is held.
func TestAllOfALongProof(t *testing.T) {
	const bits = 20
	r := newRig(t, bits)
	m := longMap(bits)
	mine, l := m.nodes(), m.shown(from(""))
	if b := listOf(l...); len(b) > 131072 || len(b) < 100000 {
		t.Fatalf("the proof has %d bytes", len(b))
	}
	r.findsNone("18.5: a long proof", mine, m.root, overAll(), l...)
	last := len(l) - 1
	twin := another(bits, hashOf(bits, l[last]), asLeaf(""), l[last])
	r.finds("18.2: the last string of a long proof", mine, m.root, overAll(), l[last], twin, instead(l, last, twin)...)
}

// Strings of one hash and of one length, which differ in few bytes, in either order.
func TestStringsOfOneLength(t *testing.T) {
	for _, bits := range twinBits {
		r := newRig(t, bits)
		a := asLeaf("6b")(0)
		b := another(bits, hashOf(bits, a), asLeaf("6b"), a)
		if len(a) != len(b) || a >= b {
			t.Fatalf("strings of %d and %d bytes", len(a), len(b))
		}
		for _, at := range []aim{to("k"), to(""), overAll()} {
			r.finds("18.1: of one length", []string{a}, hashOf(bits, a), at, a, b, b)
			r.finds("18.1: of one length", []string{b}, hashOf(bits, b), at, b, a, a)
			r.finds("18: of one length", []string{a, b}, hashOf(bits, a), at, a, b, a)
			r.finds("18: of one length", []string{b, a}, hashOf(bits, a), at, b, a, a)
		}
	}
}
