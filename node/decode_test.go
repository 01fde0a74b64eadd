package node_test

import (
	"bytes"
	"strconv"
	"strings"
	"testing"

	"cairn/api"
	"cairn/node"
)

// repeat tells so many items of one kind.
func repeat(item string, times int) []string {
	out := make([]string, times)
	for i := range out {
		out[i] = item
	}
	return out
}

// withItem tells the form of a branch's list in which one item is another.
func withItem(items []string, at int, item string) string {
	out := append([]string{}, items...)
	out[at] = item
	return list(out...)
}

func TestDecodeOfNoForm(t *testing.T) {
	for _, s := range []string{
		"", "\x80", "\x00", "a", "\x81\x80", "\xb8\x38" + strings.Repeat("a", 56), "\xc0", "\xc1", "\xc2\x20", "\xff", "\xf8", "\xf8\x00",
		unhex("c3 20 81 01"), unhex("c3 81 20 61"), unhex("f8 02 20 61"), unhex("f9 00 02 20 61"), unhex("c5 20 b8 02 61 61"), unhex("c4 20 b8 01 61"),
		unhex("c3 20 61"), unhex("c1 20 61"), unhex("c2 20 61 00"), unhex("c2 20 61 c2 20 61"), "\xbf\xff\xff\xff\xff\xff\xff\xff\xff", "\xff\xff\xff\xff\xff\xff\xff\xff\xff",
	} {
		expectBytes(t, "no form of a node", s, false)
	}
}

func TestDecodeOfPaths(t *testing.T) {
	hash := someHash(1)
	ref := str(string(hash[:]))
	for first := range 256 {
		for _, behind := range []int{0, 1, 31, 32, 33} {
			way := string([]byte{byte(first)}) + strings.Repeat("\x12", behind)
			odd, fits := first/16%2 == 1, first < 64
			fits = fits && (odd && behind <= 31 || !odd && first%16 == 0 && behind <= 32)
			expectBytes(t, "a leaf's list", list(str(way), "x"), fits && first >= 32)
			expectBytes(t, "an extension's list", list(str(way), ref), fits && (first >= 32 || odd || behind > 0))
		}
	}
	for _, s := range []string{"\x80", "\xc0", "\xc1\x20", list("\x20", "a"), list("\x17", ref)} {
		expectBytes(t, "a path that is empty or a list", list(s, "x"), false)
		expectBytes(t, "a path that is empty or a list", list(s, ref), false)
	}
}

func TestDecodeOfNumbersOfItems(t *testing.T) {
	for count := range 40 {
		expectBytes(t, strconv.Itoa(count)+" empty strings", list(repeat("\x80", count)...), false)
		expectBytes(t, strconv.Itoa(count)+" values", list(repeat("\x20", count)...), count == 2)
		expectBytes(t, strconv.Itoa(count)+" whole leaves", list(repeat("\xc2\x20a", count)...), false)
		mixed := append(repeat("\xc2\x20a", count), "\x80")
		expectBytes(t, strconv.Itoa(count)+" whole leaves and an empty string", list(mixed...), count == 16)
		expectBytes(t, strconv.Itoa(count)+" values behind a path", list(append([]string{"\x20"}, repeat("v", count)...)...), count == 1)
	}
	expectBytes(t, "one item that is a node", list("\xc2\x20a"), false)
}

func TestDecodeOfValues(t *testing.T) {
	kids := append(repeat("\xc2\x20a", 2), repeat("\x80", 14)...)
	for _, length := range []int{0, 1, 2, 31, 32, 33, 55, 56, 255, 256, 257, 1000} {
		value := str(string(someBytes(length)))
		expectBytes(t, "a leaf with a value of "+strconv.Itoa(length), list("\x20", value), length >= 1 && length <= 256)
		expectBytes(t, "a branch with a value of "+strconv.Itoa(length), list(append(kids, value)...), length <= 256)
	}
	for _, value := range []string{"\xc0", "\xc1a", "\xc1\x80", "\xc2\x20a", list(repeat("\x80", 17)...)} {
		expectBytes(t, "a leaf with a list as its value", list("\x20", value), false)
		expectBytes(t, "a branch with a list as its value", list(append(kids, value)...), false)
	}
	for b := range 256 {
		two := "\x81" + string([]byte{byte(b)})
		expectBytes(t, "a value of one byte behind a head", list("\x20", two), b >= 128)
		expectBytes(t, "a value of one byte behind a head", list(append(kids, two)...), b >= 128)
	}
}

func TestDecodeOfRefs(t *testing.T) {
	kids := append(repeat("\xc2\x20a", 2), repeat("\x80", 15)...)
	for length := range 70 {
		ref := str(string(someBytes(length)))
		expectBytes(t, "an extension's ref of "+strconv.Itoa(length), list("\x17", ref), length == 32)
		for at := range 16 {
			expectBytes(t, "a kid of "+strconv.Itoa(length), withItem(kids, at, ref), length == 32 || length == 0 && at >= 2)
		}
	}
	for _, c := range []struct {
		what string
		item string
		kind int // of the node; 0: it may not stand there
	}{
		{"a whole leaf", "\xc2\x20a", api.Leaf},
		{"a whole leaf of 31 bytes", wantEncoding(leafOf(31)), api.Leaf},
		{"a leaf of 32 bytes", wantEncoding(leafOf(32)), 0},
		{"a leaf of 33 bytes", wantEncoding(leafOf(33)), 0},
		{"a leaf of 300 bytes", wantEncoding(leaf(somePath(64), someBytes(256))), 0},
		{"a whole branch", wantEncoding(branchOf(22)), api.Branch},
		{"a whole branch of 31 bytes", wantEncoding(branchOf(31)), api.Branch},
		{"a branch of 32 bytes", wantEncoding(branchOf(32)), 0},
		{"a whole extension of 31 bytes", wantEncoding(extensionOf(31)), api.Extension},
		{"an extension of 32 bytes", wantEncoding(extensionOf(32)), 0},
		{"an extension over a hash", wantEncoding(extension([]byte{1}, hashed(1))), 0},
		{"an extension over a whole leaf", list("\x17", "\xc2\x20a"), 0},
		{"an extension over nothing", list("\x17", "\x80"), 0},
		{"an extension without a path", list("\x00", wantEncoding(branchOf(22))), 0},
		{"a leaf without a value", list("\x20", "\x80"), 0},
		{"a leaf with a list as its value", list("\x20", "\xc0"), 0},
		{"a branch of one kid", wantEncoding(branch(nil, map[int]api.Ref{3: shortLeaf('a')})), 0},
		{"an empty branch", wantEncoding(branch(nil, nil)), 0},
		{"a branch with a value alone", wantEncoding(branch([]byte("v"), nil)), 0},
		{"an empty list", "\xc0", 0},
		{"a list of one", "\xc1\x20", 0},
		{"a list of three", "\xc3\x20\x20\x20", 0},
		{"a value in another form", "\xc3\x20\x81\x01", 0},
	} {
		expectBytes(t, "an extension over "+c.what, list("\x17", c.item), c.kind == api.Branch)
		for at := range 16 {
			expectBytes(t, c.what+" as kid "+strconv.Itoa(at), withItem(kids, at, c.item), c.kind != 0)
			expectBytes(t, c.what+" as the one kid", withItem(repeat("\x80", 17), at, c.item), false)
			one := append(repeat("\x80", 16), "v")
			expectBytes(t, c.what+" as the one kid beside a value", withItem(one, at, c.item), c.kind != 0)
		}
	}
}

func TestDecodeIsWhole(t *testing.T) {
	n, e := node.Decode([]byte(wantEncoding(branch(someBytes(9), map[int]api.Ref{2: hashed(2), 15: whole(leafOf(31))}))))
	if e != api.OK || n.Kind != api.Branch || !n.Full || !bytes.Equal(n.Value, someBytes(9)) || len(n.Path) != 0 || n.Next.Kind != 0 {
		t.Errorf("7.3: a branch is read as %s, %d", tell(n), e)
	}
	for i, kid := range n.Kids {
		want := api.Ref{}
		switch i {
		case 2:
			want = hashed(2)
		case 15:
			want = whole(leafOf(31))
		}
		if !sameRef(kid, want) {
			t.Errorf("7.3: kid %d is read as %+v, not %+v", i, kid, want)
		}
	}
}
