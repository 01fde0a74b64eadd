package span_test

import (
	"strings"
	"testing"

	"cairn/api"
)

// yard is a trie of seven nodes by their hashes, told by their names, and seven entries, told by letters in their order.
//
//	top     an extension, the root, at no nibble, to 01
//	over    a branch at 01, with the entry A; its kid 1 is a whole leaf: B
//	fork    a branch at 012, its kid 5 is a whole leaf: G
//	middle  an extension at 0123, to 01234567
//	under   a branch at 01234567, with the entry C; its kid 2 is a whole leaf: D
//	end     a leaf at 012345678: E
//	side    a leaf at 0124: F
func yard(r *rig) (root api.Hash, nodes, entries map[string]string) {
	end, side := leaf("9", long), leaf("44", long+" beside")
	under := branch(long+" under", kid{8, r.byHash(end)}, kid{2, leaf("1", "d")})
	middle := ext("4567", r.byHash(under))
	fork := branch("", kid{3, r.byHash(middle)}, kid{4, r.byHash(side)}, kid{5, leaf("1f", "w")})
	over := branch("two", kid{1, leaf("1", "v")}, kid{2, r.byHash(fork)})
	top := ext("01", r.byHash(over))
	nodes = map[string]string{"top": top, "over": over, "fork": fork, "middle": middle, "under": under, "end": end, "side": side}
	entries = map[string]string{
		"A": "\x01", "B": "\x01\x11", "C": "\x01\x23\x45\x67", "D": "\x01\x23\x45\x67\x21", "E": "\x01\x23\x45\x67\x89", "F": "\x01\x24\x44", "G": "\x01\x25\x1f",
	}
	return r.lay(top), nodes, entries
}

// lettered tells the letters of entries.
func lettered(entries map[string]string, l []pair) string {
	out := ""
	for _, x := range l {
		letter := "?"
		for name, key := range entries {
			if key == x.key {
				letter = name
			}
		}
		out += letter
	}
	return out
}

// yardCases are bounds over the yard: the entries within, and the nodes that are read and shown.
var yardCases = []struct {
	b          bounds
	want, read string
}{
	{from(""), "ABCDEFG", "top over fork middle under end side"},
	// The lower bound: on the way to an extension's end, ahead of it, and behind it.
	{from("\x00"), "ABCDEFG", "top over fork middle under end side"},
	{from("\x01"), "ABCDEFG", "top over fork middle under end side"},
	{from("\x02"), "", "top"},
	{from("\x01\x00"), "BCDEFG", "top over fork middle under end side"},
	{from("\x01\x11"), "BCDEFG", "top over fork middle under end side"},
	{from("\x01\x11\x00"), "CDEFG", "top over fork middle under end side"},
	{from("\x01\x12"), "CDEFG", "top over fork middle under end side"},
	{from("\x01\x20"), "CDEFG", "top over fork middle under end side"},
	{from("\x01\x30"), "", "top over"},
	// The second extension has the path from 0123 to 01234567.
	{from("\x01\x23"), "CDEFG", "top over fork middle under end side"},
	{from("\x01\x23\x44"), "CDEFG", "top over fork middle under end side"},
	{from("\x01\x23\x45"), "CDEFG", "top over fork middle under end side"},
	{from("\x01\x23\x46"), "FG", "top over fork middle side"},
	{from("\x01\x23\x45\x66"), "CDEFG", "top over fork middle under end side"},
	{from("\x01\x23\x45\x67"), "CDEFG", "top over fork middle under end side"},
	{from("\x01\x23\x45\x67\x00"), "DEFG", "top over fork middle under end side"},
	{from("\x01\x23\x45\x67\x21"), "DEFG", "top over fork middle under end side"},
	{from("\x01\x23\x45\x67\x22"), "EFG", "top over fork middle under end side"},
	{from("\x01\x23\x45\x67\x80"), "EFG", "top over fork middle under end side"},
	{from("\x01\x23\x45\x67\x89"), "EFG", "top over fork middle under end side"},
	{from("\x01\x23\x45\x67\x89\x00"), "FG", "top over fork middle under end side"},
	{from("\x01\x23\x45\x67\x8a"), "FG", "top over fork middle under end side"},
	{from("\x01\x23\x45\x67\x90"), "FG", "top over fork middle under side"},
	{from("\x01\x23\x45\x68"), "FG", "top over fork middle side"},
	{from("\x01\x23\xff"), "FG", "top over fork middle side"},
	{from("\x01\x24"), "FG", "top over fork side"},
	{from("\x01\x24\x45"), "G", "top over fork side"},
	{from("\x01\x25"), "G", "top over fork"},
	{from("\x01\x25\x1f"), "G", "top over fork"},
	{from("\x01\x25\x20"), "", "top over fork"},
	{from("\x01\x26"), "", "top over fork"},
	// The upper bound, which is not within.
	{within("", ""), "", ""},
	{within("", "\x00"), "", "top"},
	{within("", "\x01"), "", "top"},
	{within("", "\x01\x00"), "A", "top over"},
	{within("", "\x01\x10"), "A", "top over"},
	{within("", "\x01\x11"), "A", "top over"},
	{within("", "\x01\x11\x00"), "AB", "top over"},
	{within("", "\x01\x20"), "AB", "top over fork"},
	{within("", "\x01\x23"), "AB", "top over fork"},
	{within("", "\x01\x23\x00"), "AB", "top over fork middle"},
	{within("", "\x01\x23\x45"), "AB", "top over fork middle"},
	{within("", "\x01\x23\x45\x67"), "AB", "top over fork middle"},
	{within("", "\x01\x23\x45\x67\x00"), "ABC", "top over fork middle under"},
	{within("", "\x01\x23\x45\x67\x80"), "ABCD", "top over fork middle under end"},
	{within("", "\x01\x23\x45\x67\x89"), "ABCD", "top over fork middle under end"},
	{within("", "\x01\x23\x45\x67\x89\x00"), "ABCDE", "top over fork middle under end"},
	{within("", "\x01\x23\x46"), "ABCDE", "top over fork middle under end"},
	{within("", "\x01\x24"), "ABCDE", "top over fork middle under end"},
	{within("", "\x01\x24\x00"), "ABCDE", "top over fork middle under end side"},
	{within("", "\x01\x24\x44\x00"), "ABCDEF", "top over fork middle under end side"},
	{within("", "\x01\x25\x1f"), "ABCDEF", "top over fork middle under end side"},
	{within("", "\x02"), "ABCDEFG", "top over fork middle under end side"},
	{within("", "\xff"), "ABCDEFG", "top over fork middle under end side"},
	// Both, where they are one, and the wrong way round.
	{within("\x01\x23\x45\x67", "\x01\x23\x45\x67\x00"), "C", "top over fork middle under"},
	{within("\x01\x23\x45\x67\x00", "\x01\x23\x45\x67\x80"), "D", "top over fork middle under end"},
	{within("\x01\x23\x45\x67\x22", "\x01\x23\x45\x67\x80"), "", "top over fork middle under end"},
	{within("\x01\x23\x45\x67\x22", "\x01\x23\x45\x67\x30"), "", "top over fork middle under"},
	{within("\x01\x23\x46", "\x01\x24"), "", "top over fork middle"},
	{within("\x01\x23", "\x01\x23"), "", "top over fork"},
	{within("\x01\x23\x45\x67\x89", "\x01\x23\x45\x67\x89"), "", "top over fork middle under end"},
	{within("\x01\x24", "\x01\x23"), "", "top over fork"},
	{within("\x01\x24\x44", "\x01\x23\x46"), "", "top over fork"},
	{within("\xff", "\x00"), "", "top"},
	{within("\xff", ""), "", ""},
	{within("\x01\x11", "\x01\x11"), "", "top over"},
	{within("\x01\x11", "\x01\x12"), "B", "top over"},
}

// What is read in which order, and shown, where the bounds end at a node's place, within an extension's path, ahead of it and behind it.
func TestWhatIsReadAndShown(t *testing.T) {
	for _, bits := range []int{20, 100, 256} {
		r := newRig(t, bits)
		root, nodes, entries := yard(r)
		for i, c := range yardCases {
			m, v := r.both("17.1", root, c.b)
			if letters := lettered(entries, v.entries); letters != c.want || m.e != api.OK || v.e != api.OK {
				t.Errorf("17.1: case %d: %v: %s, %d, %d, not %s", i, c.b, letters, m.e, v.e, c.want)
			}
			var names, encodings []string
			for _, h := range m.asked {
				names = append(names, nameOf(bits, nodes, h))
			}
			if read := strings.Join(names, " "); read != c.read {
				t.Errorf("17.1: case %d: %v: %q are read, not %q", i, c.b, read, c.read)
			}
			for _, name := range strings.Fields(c.read) {
				encodings = append(encodings, nodes[name])
			}
			if m.proof != listOf(encodings...) {
				t.Errorf("17.2: case %d: %v: the proof is %.80x", i, c.b, m.proof)
			}
		}
		if !r.book.Sound() {
			t.Errorf("the book is not sound: %d bits are too few for this test", bits)
		}
	}
}

// A proof for some bounds, held against others: it is accepted just if they need the same nodes, and tells what lies within those.
func TestProofsHeldAgainstOtherBounds(t *testing.T) {
	r := newRig(t, 256)
	root, nodes, entries := yard(r)
	same, other := 0, 0
	for _, c := range yardCases {
		var encodings []string
		for _, name := range strings.Fields(c.read) {
			encodings = append(encodings, nodes[name])
		}
		for _, d := range yardCases {
			v := r.verify("17.4", root, d.b, listOf(encodings...))
			if c.read != d.read {
				other++
				if !v.is(proofless) {
					t.Errorf("17.4: the proof for %v is accepted for %v: %v", c.b, d.b, v)
				}
				continue
			}
			same++
			if lettered(entries, v.entries) != d.want || v.e != api.OK {
				t.Errorf("17.4: the proof for %v, held against %v: %v, not %s", c.b, d.b, v, d.want)
			}
		}
	}
	if same < 200 || other < 2000 {
		t.Errorf("%d pairs of bounds need the same nodes, %d do not: too few to tell", same, other)
	}
}

// mapsForBounds are the keys of some small tries.
func mapsForBounds() [][]string {
	return [][]string{
		{"\x01", "\x01\x11", "\x01\x23\x45\x67", "\x01\x23\x45\x67\x21", "\x01\x23\x45\x67\x89", "\x01\x24\x44"},
		{"", "\x12", "\x13", "\x21"},
		{"\x12\x34"},
		{""},
		{"\xff\xff", "\xff\xfe", "\xf0", "\x0f", "\x00"},
	}
}

// All bounds around the entries of some tries, of whole nodes and of nodes by their hashes.
func TestAllBounds(t *testing.T) {
	for i, keys := range mapsForBounds() {
		for _, value := range []string{"v", long} {
			r := newRig(t, 256)
			entries := map[string]string{}
			for _, k := range keys {
				entries[k] = value
			}
			m := r.plant(entries)
			ends := keysAround(keys)
			for k, b := range allBounds(ends) {
				if !b.open && k%7 != i && (testing.Short() || len(ends) > 30) { // of many all kinds, not all
					continue
				}
				got, v := r.both("17.4", m.root, b)
				if got.proof != m.proof(b) || got.e != api.OK || !v.is(m.has(b)) {
					t.Fatalf("17.4: %v: %.60x, %d, %v, not %.60x, %v", b, got.proof, got.e, v, m.proof(b), m.has(b))
				}
			}
		}
	}
}

// A node that stands at several places is read and shown at each of them.
func TestOneNodeAtSeveralPlaces(t *testing.T) {
	r := newRig(t, 256)
	m := r.plant(map[string]string{"\x11": long, "\x21": long, "\x31": long, "\x32": long, "\x41\x11": long, "\x41\x21": long, "\x42\x11": long, "\x42\x21": long})
	if len(r.src.blobs) != 6 || len(m.spots) != 13 {
		t.Fatalf("the trie has %d nodes by their hashes at %d places", len(r.src.blobs), len(m.spots))
	}
	r.tells("17.2: all", m.root, from(""), 13, "\x11", "\x21", "\x31", "\x32", "\x41\x11", "\x41\x21", "\x42\x11", "\x42\x21")
	r.tells("17.2: the leaf at two places", m.root, within("\x10", "\x30"), 4, "\x11", "\x21")
	r.tells("17.2: the leaf at one of them", m.root, within("\x10", "\x20"), 3, "\x11")
	r.tells("17.2: the branch at two places", m.root, within("\x40", "\x50"), 8, "\x41\x11", "\x41\x21", "\x42\x11", "\x42\x21")
	all := m.shown(from(""))
	for i, s := range all {
		for k := i + 1; k < len(all); k++ {
			if all[k] == s {
				r.refuses("17.3: a node at two places, shown once", m.root, from(""), without(all, k)...)
				r.refuses("17.3: a node at two places, shown thrice", m.root, from(""), with(all, k, s)...)
			}
		}
	}
}

// With few bits a node can lead to itself: its encoding stands in the proof as often as it is read.
func TestNodesThatLeadToThemselves(t *testing.T) {
	for _, bits := range []int{8, 12} {
		r := newRig(t, bits)
		around := ""
		for i := 0; ; i++ {
			h := api.Hash{byte(i), byte(i>>8) << 4}
			self := item(string(h[:]))
			around = branch("", kid{1, self}, kid{2, self}, kid{3, leaf(strings.Repeat("4", 21), string(rune('A'+i%26))+sized(i/26%7))})
			if hashOf(bits, around) == h {
				break
			}
		}
		root := r.lay(around)
		r.refused("17.2: a node that leads to itself", root, from(""), api.ErrNode, 66)
		for n := 1; n < 33; n++ {
			low := strings.Repeat("\x12", n)
			b := within(low, low) // none, but the way to it is read
			r.tells("17.2: a node that leads to itself", root, b, 2*n)
			for k := range 3 {
				r.refuses("17.3: a string too few", root, b, many(2*n-1-k%2, around)...)
				r.refuses("17.3: a string too many", root, b, many(2*n+1+k, around)...)
			}
		}
		r.tells("17.2: the leaf in it, once", root, from("\x30"), 1, unhex("3"+strings.Repeat("4", 21)))
	}
}
