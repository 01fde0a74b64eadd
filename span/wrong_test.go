package span_test

import (
	"fmt"
	"slices"
	"strings"
	"testing"

	"cairn/api"
)

// without tells a list with one string less.
func without(l []string, at int) []string { return slices.Delete(slices.Clone(l), at, at+1) }

// with tells a list with one string more.
func with(l []string, at int, s string) []string { return slices.Insert(slices.Clone(l), at, s) }

// instead tells a list with another string in a place.
func instead(l []string, at int, s string) []string {
	l = slices.Clone(l)
	l[at] = s
	return l
}

// yardStrings tells the yard's encodings in the order in which they are shown.
func yardStrings(nodes map[string]string) []string {
	var out []string
	for _, name := range order {
		out = append(out, nodes[name])
	}
	return out
}

// A string too few, one too many, one twice, one of another place, in each place of the yard's proof.
func TestOtherStrings(t *testing.T) {
	r := newRig(t, 256)
	root, nodes, entries := yard(r)
	l := yardStrings(nodes)
	b := from("")
	if v := r.verify("17.3", root, b, listOf(l...)); lettered(entries, v.entries) != "ABCDEFG" {
		t.Fatalf("17.3: %v", v)
	}
	others := append(slices.Clone(l), leaf("44", long), leaf("9", long+"!"), leaf("1", "v"), "\x80", "\xc0", "x", sized(32), sized(1024), listOf(l...))
	for at := range l {
		r.refuses(fmt.Sprintf("17.3: without string %d", at), root, b, without(l, at)...)
		r.refuses(fmt.Sprintf("17.3: strings up to %d", at), root, b, l[:at]...)
		if at > 0 {
			r.refuses(fmt.Sprintf("17.3: strings from %d on", at), root, b, l[at:]...)
			r.refuses(fmt.Sprintf("17.3: strings from %d on, and the others behind", at), root, b, append(slices.Clone(l[at:]), l[:at]...)...)
		}
		for _, s := range others {
			r.refuses(fmt.Sprintf("17.3: one string more at %d", at), root, b, with(l, at, s)...)
			if s != l[at] {
				r.refuses(fmt.Sprintf("17.3: another string at %d", at), root, b, instead(l, at, s)...)
			}
		}
		for k := range at {
			swapped := instead(instead(l, at, l[k]), k, l[at])
			r.refuses(fmt.Sprintf("17.3: strings %d and %d in another order", k, at), root, b, swapped...)
		}
	}
	for _, s := range others {
		r.refuses("17.3: one string more at the end", root, b, append(slices.Clone(l), s)...)
	}
	backward := slices.Clone(l)
	slices.Reverse(backward)
	r.refuses("17.3: backward", root, b, backward...)
	r.refuses("17.3: all of them twice", root, b, append(slices.Clone(l), l...)...)
}

// All beginnings, ends and pieces of the yard's strings, within all bounds of the yard: just what those bounds need is accepted.
func TestAllPieces(t *testing.T) {
	r := newRig(t, 256)
	root, nodes, entries := yard(r)
	l := yardStrings(nodes)
	accepted := 0
	for _, c := range yardCases {
		for piece := range 1 << len(l) {
			if testing.Short() && piece%5 > 0 {
				continue
			}
			var some, names []string
			for i, name := range order {
				if piece>>i&1 == 1 {
					some, names = append(some, l[i]), append(names, name)
				}
			}
			v := r.callVerify(root, c.b, listOf(some...))
			right := strings.Join(names, " ") == c.read
			if right && (v.e != api.OK || lettered(entries, v.entries) != c.want) || !right && !v.is(proofless) {
				t.Errorf("17.3: %v with %v: %v", c.b, names, v)
			}
			if right {
				accepted++
			}
		}
	}
	if !testing.Short() && accepted != len(yardCases) {
		t.Errorf("17.3: %d proofs of %d bounds are accepted", accepted, len(yardCases))
	}
}

// All orders of some strings: only one is right.
func TestAllOrders(t *testing.T) {
	r := newRig(t, 256)
	root, nodes, _ := yard(r)
	l := []string{nodes["top"], nodes["over"], nodes["fork"], nodes["middle"], nodes["side"]}
	b := from("\x01\x23\x46")
	accepted := 0
	var all func(done, left []string)
	all = func(done, left []string) {
		if len(left) == 0 {
			if v := r.verify("17.3", root, b, listOf(done...)); v.e == api.OK {
				accepted++
				if !slices.Equal(done, l) {
					t.Errorf("17.3: another order is accepted")
				}
			}
		}
		for i := range left {
			all(append(slices.Clone(done), left[i]), without(left, i))
		}
	}
	all(nil, l)
	if accepted != 1 {
		t.Errorf("17.3: %d orders are accepted", accepted)
	}
}

// The root of one trie with the proof of another.
func TestOtherRoots(t *testing.T) {
	r := newRig(t, 256)
	one, two := plant(256, grove()), plant(256, map[string]string{"\x12\x34": long, "\x12\x35": "b", "k": "v"})
	for i, b := range []bounds{from(""), from("\x12\x34"), within("", "\x12\x34"), within("\x12\x34", "\x12\x35"), within("\x12", "\x79"), within("\xff", "\xff\x00")} {
		r.refusesBytes("17.3: another trie's proof", one.root, b, two.proof(b))
		r.refusesBytes("17.3: another trie's proof", two.root, b, one.proof(b))
		for _, root := range [][32]byte{{}, {1}, emptyRoot(256), hashOf(256, ""), hashOf(256, one.proof(b))} {
			r.refusesBytes("17.3: a root of no trie", root, b, one.proof(b))
		}
		for k := range 256 {
			root := one.root
			root[k/8] ^= 1 << (k % 8)
			if k%8 == i {
				r.refusesBytes("17.3: a root with a bit turned", root, b, one.proof(b))
			}
		}
		for _, s := range one.spots {
			if s.place != "" {
				r.refusesBytes("17.3: a root of a part", hashOf(256, s.encoding), b, one.proof(b))
			}
		}
	}
}

// Bytes that are no proof's, though all that is to be shown stands in them.
func TestBytesThatAreNoProof(t *testing.T) {
	r := newRig(t, 256)
	root, nodes, _ := yard(r)
	l := yardStrings(nodes)
	b := listOf(l...)
	items := ""
	for _, s := range l {
		items += item(s)
	}
	size := len(items)
	if size < 256 || size > 65535 {
		t.Fatalf("the strings have %d bytes", size)
	}
	nested := ""
	for i := len(l) - 1; i >= 0; i-- {
		nested = list(item(l[i]), nested)
	}
	wrong := map[string]string{
		"nothing":                         "",
		"a byte behind":                   b + "\x00",
		"a list behind":                   b + "\xc0",
		"itself behind":                   b + b,
		"a byte ahead":                    "\x00" + b,
		"a string":                        item(items),
		"without a head":                  items,
		"a list in a list":                list(b),
		"the proof as a string of a list": list(item(b)),
		"lists in lists":                  nested,
		"the nodes as items":              list(l...),
		"a length in three bytes":         "\xfa\x00" + string([]byte{byte(size / 256), byte(size % 256)}) + items,
		"a length in eight bytes":         "\xff\x00\x00\x00\x00\x00\x00" + string([]byte{byte(size / 256), byte(size % 256)}) + items,
		"a length that is one less":       "\xf9" + string([]byte{byte((size - 1) / 256), byte((size - 1) % 256)}) + items,
		"a length that is one more":       "\xf9" + string([]byte{byte((size + 1) / 256), byte((size + 1) % 256)}) + items,
		"an empty string behind":          list(items, "\x80"),
		"an empty string ahead":           list("\x80", items),
		"an empty list behind":            list(items, "\xc0"),
		"a string that is too long":       list(items, item(sized(1025))),
		"a byte in two":                   list(items, "\x81\x01"),
		"too many bytes":                  listOf(append(slices.Clone(l), many(130, sized(1024))...)...),
		"as a text":                       fmt.Sprintf("%x", b),
	}
	if v := r.verify("17.3", root, from(""), b); v.e != api.OK {
		t.Fatalf("17.3: %v", v)
	}
	for what, s := range wrong {
		r.refusesBytes("17.3: "+what, root, from(""), s)
		r.refusesBytes("17.3: "+what+", to nothing", root, within("", ""), s)
	}
	one := leaf("6b", "v")
	for _, s := range []string{one, "\xc5" + one, "\xf8\x06\x85" + one, "\xc7\xb8\x05" + one, list(one), "\x86\x85" + one, item(one), "\xc6\x85" + one + "\x00", "\x00\xc6\x85" + one} {
		r.refusesBytes("17.3: another form", hashOf(256, one), from(""), s)
	}
	r.proves("17.3", hashOf(256, one), from(""), []pair{{"k", "v"}}, one)
}

// Proofs of as many bytes as one may have, and of more: what is shown comes first, all else behind it is too much.
func TestLongProofs(t *testing.T) {
	r := newRig(t, 256)
	root, nodes, _ := yard(r)
	l := yardStrings(nodes)
	b := from("")
	for _, n := range []int{1, 100, 126, 127, 128, 1000} {
		r.refuses("17.3: strings behind", root, b, append(slices.Clone(l), many(n, sized(1024))...)...)
		r.refuses("17.3: strings ahead", root, b, append(many(n, sized(1024)), l...)...)
		r.refuses("17.3: the root's again and again", root, b, many(n, l[0])...)
	}
	r.refuses("17.3: as many strings as can be", root, b, append(slices.Clone(l), many(130000, "x")...)...)
	r.refuses("17.3: as many strings as can be", root, b, many(131068, "x")...)
	r.refuses("17.3: one more", root, b, many(131069, "x")...)
	r.refusesBytes("17.3: lists without an end", root, b, strings.Repeat("\xc1", 131072))
	r.refusesBytes("17.3: zeros", root, b, strings.Repeat("\x00", 1<<20))
}

// Strings that are shown where a whole node stands, or nothing: they are one too many.
func TestWholeNodesAreNotShown(t *testing.T) {
	r := newRig(t, 256)
	inner := leaf("7", "w")
	under := branch("v", kid{3, leaf("4", "w")})
	for _, c := range []struct{ top, inner string }{
		{branch("", kid{1, inner}, kid{2, sibling(1)}), inner},
		{ext("12", under), under},
	} {
		root := r.lay(c.top)
		r.refuses("17.3: a whole node as a string", root, from(""), c.top, c.inner)
		r.refuses("17.3: a whole node as a string", root, from(""), c.inner, c.top)
		if m, _ := r.both("17.2: whole nodes are not shown", root, from("")); m.proof != listOf(c.top) {
			t.Errorf("17.2: %x", m.proof)
		}
	}
}

// The first string may have fewer than 32 bytes; the others may not, whatever their hashes.
func TestShortStrings(t *testing.T) {
	r := newRig(t, 256)
	short, least := leaf("7", strings.Repeat("v", 28)), leaf("7", strings.Repeat("v", 29))
	if len(short) != 31 || len(least) != 32 {
		t.Fatalf("leaves of %d and %d bytes", len(short), len(least))
	}
	for _, s := range []string{short, least} {
		top := branch("", kid{1, r.byHash(s)}, kid{2, sibling(1)})
		over := ext("1", r.byHash(branch("", kid{1, r.byHash(s)}, kid{2, sibling(1)})))
		r.proves("17.3: as a root", r.lay(leaf("77", "v")), from(""), []pair{{"\x77", "v"}}, leaf("77", "v"))
		v := r.verify("17.3", r.lay(top), from(""), listOf(top, s))
		if (len(s) < 32) != v.is(proofless) {
			t.Errorf("17.3: a string of %d bytes: %v", len(s), v)
		}
		r.refuses("17.3: what is not gone into", r.lay(top), from("\x20"), top, s)
		r.proves("17.3: what is not gone into", r.lay(top), from("\x20"), []pair{{"\x27", "s"}}, top)
		r.both("17.3: under an extension", r.lay(over), from(""))
	}
}
