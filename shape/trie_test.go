package shape_test

import (
	"fmt"
	"slices"
	"strings"
	"testing"

	"cairn/api"
	"cairn/node"
)

func TestOneEntry(t *testing.T) {
	for _, key := range []int{0, 1, 2, 16, 31, 32} {
		for _, value := range []string{"v", "\x00", "\x80", long, ofSize(256)} {
			path := strings.Repeat("5a", key)
			is(t, "one entry", []pair{{ofSize(key), value}}, census{1, 0, 0, 1}, leaf(path, value))
		}
	}
}

func TestTwoEntries(t *testing.T) {
	is(t, "nothing in common", pairs("12", "a", "83", "b"), census{2, 0, 1, 2},
		branch("", kids{'1': leaf("2", "a"), '8': leaf("3", "b")}))
	is(t, "nothing in common, the first and the last nibble", pairs("00", "a", "f0", "b"), census{2, 0, 1, 2},
		branch("", kids{'0': leaf("0", "a"), 'f': leaf("0", "b")}))
	is(t, "a byte in common", pairs("1234", "a", "1256", "b"), census{2, 1, 1, 3},
		ext("12", branch("", kids{'3': leaf("4", "a"), '5': leaf("6", "b")})))
	is(t, "a byte and a half in common", pairs("1234", "a", "1235", "b"), census{2, 1, 1, 3},
		ext("123", branch("", kids{'4': leaf("", "a"), '5': leaf("", "b")})))
	is(t, "half a byte in common, of other lengths", pairs("12", "a", "137788", "b"), census{2, 1, 1, 3},
		ext("1", branch("", kids{'2': leaf("", "a"), '3': leaf("7788", "b")})))
	is(t, "one begins the other", pairs("12", "a", "123456", "b"), census{1, 1, 1, 3},
		ext("12", branch("a", kids{'3': leaf("456", "b")})))
	is(t, "the empty key begins the other", pairs("", "a", "123456", "b"), census{1, 0, 1, 2},
		branch("a", kids{'1': leaf("23456", "b")}))
	deep := strings.Repeat("7", 63)
	is(t, "all but the last nibble in common", pairs(deep+"0", "a", deep+"f", "b"), census{2, 1, 1, 3},
		ext(deep, branch("", kids{'0': leaf("", "a"), 'f': leaf("", "b")})))
	far := leaf(deep[2:], "b")
	fork := branch("a", kids{'7': byHash(256, far)})
	is(t, "the longest key behind its first byte", pairs("77", "a", deep+"7", "b"), census{1, 1, 1, 3}, ext("77", byHash(256, fork)), fork, far)
}

func TestSixteenKids(t *testing.T) {
	for _, value := range []string{"", "v", long} {
		for _, below := range []string{"w", long, ofSize(256)} {
			var l []pair
			if value != "" {
				l = append(l, pair{"", value})
			}
			all := kids{}
			var blobs []string
			for i, digit := range []byte("0123456789abcdef") {
				l = append(l, pair{string([]byte{byte(16*i + i)}), below})
				kid := leaf(string([]byte{digit}), below)
				all[digit] = kid
				if len(kid) >= 32 {
					all[digit] = byHash(256, kid)
					blobs = append(blobs, kid)
				}
			}
			is(t, "sixteen kids", l, census{16, 0, 1, 2}, append([]string{branch(value, all)}, blobs...)...)
		}
	}
}

// Each kid by itself stands under its own nibble, with and without a value beside it.
func TestEachNibble(t *testing.T) {
	for i := range 16 {
		is(t, "one kid and a value", []pair{{"", "v"}, {string([]byte{byte(16 * i)}), "w"}}, census{1, 0, 1, 2},
			branch("v", kids{fmt.Sprintf("%x", i)[0]: leaf("0", "w")}))
		for j := range i {
			is(t, "two kids", []pair{{string([]byte{byte(16*j + 15)}), "a"}, {string([]byte{byte(16 * i)}), "b"}}, census{2, 0, 1, 2},
				branch("", kids{fmt.Sprintf("%x", j)[0]: leaf("f", "a"), fmt.Sprintf("%x", i)[0]: leaf("0", "b")}))
			is(t, "two kids at half a byte", []pair{{string([]byte{byte(112 + j)}), "a"}, {string([]byte{byte(112 + i)}), "b"}}, census{2, 1, 1, 3},
				ext("7", branch("", kids{fmt.Sprintf("%x", j)[0]: leaf("", "a"), fmt.Sprintf("%x", i)[0]: leaf("", "b")})))
		}
	}
}

// Leaves, branches and extensions of every length around 32 bytes, in branches and below extensions.
func TestWholeOrByHash(t *testing.T) {
	seen := map[string]int{}
	for size := 1; size <= 40; size++ {
		value := ofSize(size)
		for _, l := range [][]pair{
			pairs("12", value, "83", "b"),                  // a leaf in a branch
			pairs("1234", value, "8377", "b", "8378", "c"), // and an extension beside it
			pairs("12", "a", "1234", value),                // a leaf in a branch below an extension
			pairs("12", value, "1234", "b"),                // the branch's own value
			pairs("12", value, "1234", "b", "77", "c"),     // an extension in a branch
			pairs("11", value, "12", "b", "77", "c"),       // a branch in a branch
			pairs("1111", value, "1112", "b", "22", value), // a branch behind an extension in a branch
		} {
			entries := mapOf(l)
			for _, bits := range []int{256, 9} {
				holds(t, "14.4", bits, entries)
			}
			for _, b := range model(256, entries).blobs {
				n, e := node.Decode([]byte(b.data))
				if e != api.OK {
					t.Fatalf("%x is no node", b.data)
				}
				seen[fmt.Sprintf("%d by hash, %v", n.Kind, len(b.data) < 32)]++
				for _, r := range append(n.Kids[:], n.Next) {
					if in, e := node.Decode(r.Node); r.Kind == api.RefNode && e == api.OK {
						seen[fmt.Sprintf("%d whole in %d, %v", in.Kind, n.Kind, len(r.Node) == 31)]++
					}
				}
			}
		}
	}
	for _, what := range []string{"1 by hash, false", "2 by hash, true", "2 by hash, false", "3 by hash, true", "3 by hash, false", "1 whole in 3, true", "3 whole in 2, true", "2 whole in 3, true", "3 whole in 3, true"} {
		if seen[what] == 0 {
			t.Errorf("no node was met of: %s (%v)", what, seen)
		}
	}
}

// The root stands by its hash, and is told, however short it is; nothing else that is short is.
func TestShortRoot(t *testing.T) {
	for _, l := range [][]pair{pairs("", "e"), pairs("12", "a"), pairs("12", "a", "13", "b"), pairs("", "e", "12", "a")} {
		want := holds(t, "14.6", 256, mapOf(l))
		if nodes := want.nodes(); len(nodes) != 1 || len(nodes[0].data) >= 32 || nodes[0].key != string(want.root[:]) {
			t.Errorf("14.6: %q: %x", l, nodes)
		}
	}
}

// One encoding at several places is one blob, and is counted at each of them.
func TestOneEncodingAtSeveralPlaces(t *testing.T) {
	kid := leaf("1", long)
	at := byHash(256, kid)
	is(t, "a leaf", pairs("11", long, "21", long, "31", long), census{3, 0, 1, 2}, branch("", kids{'1': at, '2': at, '3': at}), kid)
	fork := branch("", kids{'1': at, '2': at})
	way := ext("1", byHash(256, fork))
	top := branch("", kids{'1': byHash(256, way), '2': byHash(256, way)})
	is(t, "all kinds", pairs("111111", long, "111121", long, "112111", long, "112121", long), census{4, 3, 3, 5},
		ext("11", byHash(256, top)), top, way, fork, kid)
	whole := branch("", kids{'1': leaf("", "v"), '2': leaf("", "v")})
	is(t, "whole ones", pairs("1111", "v", "1112", "v", "1211", "v", "1212", "v"), census{4, 3, 3, 5},
		ext("1", byHash(256, branch("", kids{'1': ext("1", whole), '2': ext("1", whole)}))), branch("", kids{'1': ext("1", whole), '2': ext("1", whole)}))
}

// Where keys have parted at two nibbles, the trie of their rests stands as it does by itself.
func TestTriesInTries(t *testing.T) {
	low := holds(t, "14.4", 256, mapOf(pairs("11", long, "12", "b")))
	high := holds(t, "14.4", 256, mapOf(pairs("7011", long, "7012", "b", "7111", "c", "8888", "c")))
	for _, b := range low.nodes() {
		if !slices.Contains(high.nodes(), b) {
			t.Errorf("14.4: below two nibbles %x is not there", b.data)
		}
	}
}

// All maps of some keys, with short and with long values.
func TestAllMapsOfSomeKeys(t *testing.T) {
	for _, keys := range [][]string{
		{"", "\x11", "\x12", "\x21", "\x11\x11", "\x11\x12", "\x11\x21", "\x12\x11", "\x22\x22"},
		{"\x00", "\x0f", "\xf0", "\xff", "\x00\x00", "\x00\x0f", "\x00\xf0", "\xff\xff\xff"},
		{"", "\x77", "\x77\x77", "\x77\x77\x77", ofSize(31), ofSize(32), ofSize(31) + "\x5b", ofSize(30)},
	} {
		for which := range 1 << len(keys) {
			for _, value := range []string{"v", long} {
				entries := map[string]string{}
				for i, key := range keys {
					if which>>i&1 == 1 {
						entries[key] = value
					}
				}
				holds(t, "14.4", []int{256, 8}[which%2], entries)
			}
		}
	}
}

// With few bits several nodes have one hash: each is told, and they stand by their bytes.
func TestNodesWithOneHash(t *testing.T) {
	for _, bits := range []int{8, 9, 10, 12} {
		entries := map[string]string{}
		for i := range 150 {
			entries[string([]byte{byte(i), byte(i * i)})] = fmt.Sprint(i%100, long)
		}
		want := holds(t, "14.6", bits, entries)
		nodes := want.nodes()
		same, repeated := 0, len(want.blobs)-len(nodes)
		for i := 1; i < len(nodes); i++ {
			if nodes[i].key == nodes[i-1].key {
				same++
			}
			if nodes[i].key+nodes[i].data <= nodes[i-1].key+nodes[i-1].data {
				t.Fatalf("the nodes that are wanted do not rise")
			}
		}
		if same == 0 || repeated == 0 {
			t.Errorf("%d bits: %d nodes have the hash of another one, %d stand there again: too few to tell", bits, same, repeated)
		}
	}
}

// Nodes rise by their hashes: their order in the trie does not count.
func TestNodesRise(t *testing.T) {
	var l []pair
	for i := range 64 {
		l = append(l, pair{string([]byte{byte(4 * i)}), fmt.Sprint(i, long)})
	}
	nodes, e := nodesOf(t, newBook(t, 256), l)
	if e != api.OK || len(nodes) != 81 {
		t.Fatalf("14.6: %d nodes, %d", len(nodes), e)
	}
	if !slices.IsSortedFunc(nodes, func(a, b blob) int { return strings.Compare(a.key, b.key) }) {
		t.Errorf("14.6: they do not rise")
	}
	for _, b := range nodes {
		if h := hashOf(256, b.data); string(h[:]) != b.key {
			t.Errorf("14.6: %x stands under %x", b.data, b.key)
		}
	}
}

// Values that are like something else: nodes, hashes, the empty trie's byte, what else has a form of its own.
func TestValuesLikeOtherThings(t *testing.T) {
	h := hashOf(256, leaf("1", long))
	for _, value := range []string{"\x00", "\x7f", "\x80", "\x81", "\xb7", "\xb8", "\xbf", "\xc0", "\xff", "\x80\x80", string(h[:]), leaf("", "v"), branch("v", kids{'1': leaf("", "w")})} {
		is(t, "by itself", []pair{{"\x12", value}}, census{1, 0, 0, 1}, leaf("12", value))
		holds(t, "14.4", 256, map[string]string{"": value, "\x12": value, "\x12\x00": value, "\x13": value})
	}
}
