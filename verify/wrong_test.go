package verify_test

import (
	"fmt"
	"slices"
	"strings"
	"testing"
)

// without tells a list with one string less.
func without(l []string, at int) []string { return slices.Delete(slices.Clone(l), at, at+1) }

// with tells a list with one string more.
func with(l []string, at int, s string) []string { return slices.Insert(slices.Clone(l), at, s) }

// instead tells a list with another string in a place.
func instead(l []string, at int, s string) []string {
	l = slices.Clone(l)
	l[at] = s
	return l
}

// A string too few, one too many, one twice, one of another way, in each place of a long way.
func TestOtherStrings(t *testing.T) {
	r := newRig(t, 256)
	root, key, l := chain(256)
	r.proves("16.3", root, key, long, l...)
	others := append(slices.Clone(l), leaf("44", long), leaf("9", long+"!"), leaf("1", "v"), "\x80", "\xc0", "x", sized(32), sized(1024), listOf(l...))
	for at := range l {
		r.refuses(fmt.Sprintf("16.3: without string %d", at), root, key, without(l, at)...)
		r.refuses(fmt.Sprintf("16.3: strings up to %d", at), root, key, l[:at]...)
		if at > 0 {
			r.refuses(fmt.Sprintf("16.3: strings from %d on", at), root, key, l[at:]...)
			r.refuses(fmt.Sprintf("16.3: strings from %d on, and the others behind", at), root, key, append(slices.Clone(l[at:]), l[:at]...)...)
		}
		for _, s := range others {
			r.refuses(fmt.Sprintf("16.3: one string more at %d", at), root, key, with(l, at, s)...)
			if s != l[at] {
				r.refuses(fmt.Sprintf("16.3: another string at %d", at), root, key, instead(l, at, s)...)
			}
		}
		for k := range at {
			swapped := instead(instead(l, at, l[k]), k, l[at])
			r.refuses(fmt.Sprintf("16.3: strings %d and %d in another order", k, at), root, key, swapped...)
		}
	}
	for _, s := range others {
		r.refuses("16.3: one string more at the end", root, key, append(slices.Clone(l), s)...)
	}
	backward := slices.Clone(l)
	slices.Reverse(backward)
	r.refuses("16.3: backward", root, key, backward...)
	r.refuses("16.3: all of them twice", root, key, append(slices.Clone(l), l...)...)
}

// All orders of the strings of a way, for each key of it: only one is right.
func TestAllOrders(t *testing.T) {
	r := newRig(t, 256)
	root, _, l := chain(256)
	l = l[:5]
	for key, c := range chainKeys() {
		var all func(done, left []string)
		all = func(done, left []string) {
			if len(done) == c.n && !slices.Equal(done, l[:len(done)]) || len(left) == 0 && c.n != len(l) {
				r.refuses("16.3: another order", root, key, done...)
			}
			for i := range left {
				all(append(slices.Clone(done), left[i]), without(left, i))
			}
		}
		all(nil, l)
	}
}

// The root of one trie with the proof of another.
func TestOtherRoots(t *testing.T) {
	r := newRig(t, 256)
	one, two := plant(256, grove()), plant(256, map[string]string{"\x12\x34": long, "\x12\x35": "b", "k": "v"})
	for _, key := range nearAll(grove()) {
		r.refusesBytes("16.3: another trie's proof", one.root, key, two.proof(key))
		r.refusesBytes("16.3: another trie's proof", two.root, key, one.proof(key))
		for _, root := range [][32]byte{{}, {1}, emptyRoot(256), hashOf(256, ""), hashOf(256, one.proof(key))} {
			r.refusesBytes("16.3: a root of no trie", root, key, one.proof(key))
		}
		for i := range 256 {
			root := one.root
			root[i/8] ^= 1 << (i % 8)
			if i%8 == 0 || key == "\x12\x34" {
				r.refusesBytes("16.3: a root with a bit turned", root, key, one.proof(key))
			}
		}
		for _, s := range one.spots {
			if s.place != "" {
				r.refusesBytes("16.3: a root of a part", hashOf(256, s.encoding), key, one.proof(key))
			}
		}
	}
}

// A part of a trie is a trie of its own, for its own root and keys.
func TestPartsOfTries(t *testing.T) {
	r := newRig(t, 256)
	m := plant(256, grove())
	for _, key := range nearAll(grove()) {
		l := m.trail(key)
		for at := 1; at < len(l); at++ {
			for _, other := range nearAll(grove()) {
				r.ask("16.3: a part", hashOf(256, l[at]), other, listOf(l[at:]...))
			}
		}
	}
}

// Bytes that are no proof's, though all that is to be shown stands in them.
func TestBytesThatAreNoProof(t *testing.T) {
	r := newRig(t, 256)
	root, key, l := chain(256)
	b := listOf(l...)
	items := ""
	for _, s := range l {
		items += item(s)
	}
	size := len(items)
	if size < 256 || size > 65535 {
		t.Fatalf("the strings have %d bytes", size)
	}
	nested := ""
	for i := len(l) - 1; i >= 0; i-- {
		nested = list(item(l[i]), nested)
	}
	wrong := map[string]string{
		"nothing":                         "",
		"a byte behind":                   b + "\x00",
		"a list behind":                   b + "\xc0",
		"itself behind":                   b + b,
		"a byte ahead":                    "\x00" + b,
		"a string":                        item(items),
		"without a head":                  items,
		"a list in a list":                list(b),
		"the proof as a string of a list": list(item(b)),
		"lists in lists":                  nested,
		"the nodes as items":              list(l...),
		"a length in three bytes":         "\xfa\x00" + string([]byte{byte(size / 256), byte(size % 256)}) + items,
		"a length in eight bytes":         "\xff\x00\x00\x00\x00\x00\x00" + string([]byte{byte(size / 256), byte(size % 256)}) + items,
		"a length that is one less":       "\xf9" + string([]byte{byte((size - 1) / 256), byte((size - 1) % 256)}) + items,
		"a length that is one more":       "\xf9" + string([]byte{byte((size + 1) / 256), byte((size + 1) % 256)}) + items,
		"an empty string behind":          list(items, "\x80"),
		"an empty string ahead":           list("\x80", items),
		"an empty list behind":            list(items, "\xc0"),
		"a string that is too long":       list(items, item(sized(1025))),
		"a byte in two":                   list(items, "\x81\x01"),
		"too many bytes":                  listOf(append(slices.Clone(l), many(130, sized(1024))...)...),
		"as a text":                       fmt.Sprintf("%x", b),
	}
	r.proves("16.1", root, key, long, l...)
	for what, s := range wrong {
		r.refusesBytes("16.1: "+what, root, key, s)
	}
	one := leaf("6b", "v")
	for _, s := range []string{one, "\xc5" + one, "\xf8\x06\x85" + one, "\xc7\xb8\x05" + one, list(one), "\x86\x85" + one, item(one), "\xc6\x85" + one + "\x00", "\x00\xc6\x85" + one} {
		r.refusesBytes("16.1: another form", hashOf(256, one), "k", s)
	}
	r.proves("16.1", hashOf(256, one), "k", "v", one)
}

// Proofs of as many bytes as one may have, and of more: what is shown comes first, all else behind it is too much.
func TestLongProofs(t *testing.T) {
	r := newRig(t, 256)
	root, key, l := chain(256)
	for _, n := range []int{1, 100, 126, 127, 128, 1000} {
		r.refuses("16.3: strings behind", root, key, append(slices.Clone(l), many(n, sized(1024))...)...)
		r.refuses("16.3: strings ahead", root, key, append(many(n, sized(1024)), l...)...)
		r.refuses("16.3: the root's again and again", root, key, many(n, l[0])...)
	}
	r.refuses("16.3: as many strings as can be", root, key, append(slices.Clone(l), many(130000, "x")...)...)
	r.refuses("16.3: as many strings as can be", root, key, many(131068, "x")...)
	r.refuses("16.3: one more", root, key, many(131069, "x")...)
	r.refusesBytes("16.1: lists without an end", root, key, strings.Repeat("\xc1", 131072))
	r.refusesBytes("16.1: zeros", root, key, strings.Repeat("\x00", 1<<20))
}
