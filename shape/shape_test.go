package shape_test

import (
	"slices"
	"strings"
	"testing"

	"cairn/api"
	"cairn/node"
	"cairn/shape"
)

func TestExample1(t *testing.T) {
	book := newBook(t, 256)
	for _, none := range [][]api.Entry{nil, {}, make([]api.Entry, 0, 3)} {
		if root, e := shape.Root(book, none); root != node.Empty(book) || root != hashOf(256, "\x80") || e != api.OK {
			t.Errorf("14.5: the root of no entries: %x, %d", root, e)
		}
		if blobs, e := shape.Nodes(book, none); len(blobs) != 0 || e != api.OK {
			t.Errorf("14.6: the nodes of no entries: %x, %d", blobs, e)
		}
		if a, b, c, d, e := shape.Count(none); a != 0 || b != 0 || c != 0 || d != 0 || e != api.OK {
			t.Errorf("14.7: the count of no entries: %d, %d, %d, %d, %d", a, b, c, d, e)
		}
	}
}

func TestExamples2To5(t *testing.T) {
	is(t, "example 2", pairs("12", "a"), census{1, 0, 0, 1}, "\xc4\x82\x20\x12a")
	two := "\xd5\x80\x80\xc2\x20a\xc2\x20b" + strings.Repeat("\x80", 13)
	is(t, "example 3", pairs("12", "a", "13", "b"), census{2, 1, 1, 3}, "\xd7\x11"+two)
	is(t, "example 4", pairs("", "e", "12", "a"), census{1, 0, 1, 2}, "\xd3\x80\xc2\x32a"+strings.Repeat("\x80", 14)+"e")
	value := "\xd3\xc2\x30b" + strings.Repeat("\x80", 15) + "a"
	is(t, "example 5", pairs("12", "a", "1200", "b"), census{1, 1, 1, 3}, "\xd7\x82\x00\x12"+value)
}

func TestExample6(t *testing.T) {
	if got := sorted(t, pairs("13", "b", "12", "a", "13", "c")); !slices.Equal(got, pairs("12", "a", "13", "c")) {
		t.Errorf("14.2: %q", got)
	}
	noMap(t, pairs("13", "b", "12", "a"))
	noMap(t, pairs("12", "a", "12", "a"))
	noMap(t, pairs("12", ""))
	noMap(t, []pair{{strings.Repeat("\x12", 33), "a"}})
}

func TestExample7(t *testing.T) {
	for _, c := range []struct {
		entries []pair
		changes []api.Change
		want    []pair
		e       api.Errno
	}{
		{pairs("12", "a"), []api.Change{put("\x13", "b"), gone("\x12")}, pairs("13", "b"), api.OK},
		{nil, []api.Change{gone("\x12")}, nil, api.OK},
		{nil, []api.Change{put("\x12", "")}, nil, api.ErrInput},
		{pairs("12", ""), []api.Change{put("\x12", "")}, nil, api.ErrOrder},
	} {
		if got, e := applied(t, c.entries, c.changes); !slices.Equal(got, c.want) || e != c.e {
			t.Errorf("14.3: Apply(%q, %s) = %q, %d", c.entries, tell(c.changes...), got, e)
		}
	}
}

// Without a book nothing else is asked for.
func TestNoBook(t *testing.T) {
	for _, l := range [][]pair{nil, pairs("12", "a"), pairs("12", "a", "13", long), pairs("13", "b", "12", "a"), pairs("12", "a", "12", "a"), pairs("12", ""), {{strings.Repeat("k", 33), "v"}}} {
		if root, e := rootOf(t, nil, l); root != (api.Hash{}) || e != api.ErrHandle {
			t.Errorf("14.5: Root of %q without a book: %x, %d", l, root, e)
		}
		if blobs, e := nodesOf(t, nil, l); len(blobs) != 0 || e != api.ErrHandle {
			t.Errorf("14.6: Nodes of %q without a book: %x, %d", l, blobs, e)
		}
	}
}

func ofSize(n int) string { return strings.Repeat("\x5a", n) }

// Keys and values of all lengths around the limits, by themselves and ahead of, between and behind others.
func TestLengths(t *testing.T) {
	for _, key := range []int{0, 1, 2, 31, 32, 33, 34, 64, 65, 300} {
		for _, value := range []int{0, 1, 2, 31, 32, 255, 256, 257, 258, 1024, 70000} {
			entry := pair{ofSize(key), ofSize(value)}
			lists := [][]pair{{entry}, {entry, {"\x77", "w"}}, {entry, {"\x5b", "w"}, {"\x77", "w"}}}
			if key > 0 {
				lists = append(lists, []pair{{"", "v"}, entry}, []pair{{"", "v"}, {"\x33", "v"}, entry}, []pair{{"\x33", "v"}, entry, {"\x77", "w"}})
			}
			for _, l := range lists {
				if key > 32 || value < 1 || value > 256 {
					noMap(t, l)
				} else {
					holds(t, "14.1", 256, mapOf(l))
					if got, e := applied(t, l, nil); !slices.Equal(got, l) || e != api.OK {
						t.Errorf("14.1, 14.3: a key of %d bytes with a value of %d: %q, %d", key, value, got, e)
					}
				}
				if got := sorted(t, l); !slices.Equal(got, l) {
					t.Errorf("14.2: a key of %d bytes with a value of %d: %.100q", key, value, got)
				}
			}
		}
	}
}

// orderly are keys in their order, with all that it can hang on.
func orderly() []string {
	return []string{"", "\x00", "\x00\x00", "\x00\x01", "\x01", "\x0f", "\x10", "\x12", "\x12\x00", "\x12\x00\x00", "\x12\x34", "\x12\xff", "\x13", "\x7f", "\x7f\xff", "\x80", "\x80\x00", "\xf0", "\xff", "\xff\x00", "\xff\xff", strings.Repeat("\xff", 31), strings.Repeat("\xff", 32)}
}

// Of two keys, and of two behind another one or ahead of another one, the order counts.
func TestTwoKeys(t *testing.T) {
	keys := orderly()
	for i, a := range keys {
		for j, b := range keys {
			l := []pair{{a, "a"}, {b, long}}
			lists := [][]pair{l}
			if i > 0 && j > 0 {
				lists = append(lists, append([]pair{{"", "e"}}, l...))
			}
			if last := len(keys) - 1; i < last && j < last {
				lists = append(lists, append(l[:2:2], pair{keys[last], "z"}))
			}
			for _, l := range lists {
				if i >= j {
					noMap(t, l)
				} else {
					holds(t, "14.1", 256, mapOf(l))
				}
			}
		}
	}
}

// A single fault in a long list is seen wherever it stands.
func TestOneFaultAmongMany(t *testing.T) {
	var right []pair
	for _, key := range orderly() {
		right = append(right, pair{key, "v" + key})
	}
	holds(t, "14.1", 256, mapOf(right))
	for i := range right {
		wrong := slices.Clone(right)
		wrong[i].value = ""
		noMap(t, wrong)
		wrong[i].value = ofSize(257)
		noMap(t, wrong)
		noMap(t, slices.Insert(slices.Clone(right), i, right[i]))
		if i > 0 {
			wrong = slices.Clone(right)
			wrong[i-1], wrong[i] = wrong[i], wrong[i-1]
			noMap(t, wrong)
			noMap(t, append(slices.Clone(right), right[i-1]))
			noMap(t, slices.Insert(slices.Clone(right), i, pair{right[i-1].key + ofSize(33), "v"}))
		}
	}
}

// Two keys that come twice with another one between them are out of order too.
func TestTwiceWithOneBetween(t *testing.T) {
	noMap(t, pairs("12", "a", "13", "b", "12", "a"))
	noMap(t, pairs("13", "a", "12", "b", "13", "a"))
	noMap(t, pairs("", "a", "12", "b", "", "a"))
	noMap(t, pairs("", "a", "", "a"))
}
