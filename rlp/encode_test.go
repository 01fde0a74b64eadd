package rlp_test

import (
	"math/rand"
	"slices"
	"strings"
	"testing"

	"cairn/api"
	"cairn/rlp"
)

func checkForm(t *testing.T, x rlp.Item, want string, what string) {
	t.Helper()
	if b, e := rlp.Encode(x); e != api.OK || string(b) != want {
		t.Errorf("5.1: %s: Encode answers %d bytes %.20x, %d, not %d bytes %.20x", what, len(b), b, e, len(want), want)
	}
}

func checkRefused(t *testing.T, x rlp.Item, want api.Errno, what string) {
	t.Helper()
	if b, e := rlp.Encode(x); e != want || len(b) != 0 {
		t.Errorf("5.2: %s: Encode answers %d bytes, %d, not %d alone", what, len(b), e, want)
	}
}

func TestErrorNumbers(t *testing.T) {
	_, number := rlp.Number(-1)
	_, _, short := rlp.Decode(nil)
	_, _, long := rlp.Decode([]byte("ab"))
	_, _, form := rlp.Decode([]byte("\x81\x00"))
	_, deep := rlp.Encode(within(list(), 80))
	_, length := rlp.Encode(str(as(1048576)))
	got := []api.Errno{number, short, long, form, deep, length}
	if !slices.Equal(got, []api.Errno{2, 50, 51, 52, 53, 54}) {
		t.Errorf("Errors: %v, not 2, 50, 51, 52, 53, 54", got)
	}
}

func TestFormOfStrings(t *testing.T) {
	for _, c := range []struct {
		n    int
		head string
	}{
		{0, "\x80"},
		{2, "\x82"},
		{3, "\x83"},
		{54, "\xb6"},
		{55, "\xb7"},
		{56, "\xb8\x38"},
		{57, "\xb8\x39"},
		{255, "\xb8\xff"},
		{256, "\xb9\x01\x00"},
		{1024, "\xb9\x04\x00"},
		{65535, "\xb9\xff\xff"},
		{65536, "\xba\x01\x00\x00"},
		{1048572, "\xba\x0f\xff\xfc"},
	} {
		for _, fill := range []string{"\x00", "a", "\x7f", "\x80", "\xff"} {
			s := strings.Repeat(fill, c.n)
			checkForm(t, str(s), c.head+s, "a string")
		}
	}
	for c := range 256 {
		s := string([]byte{byte(c)})
		want := s
		if c >= 128 {
			want = "\x81" + s
		}
		checkForm(t, str(s), want, "a string of one byte")
	}
}

func TestFormOfLists(t *testing.T) {
	for _, c := range []struct {
		n    int
		head string
	}{
		{0, "\xc0"},
		{1, "\xc1"},
		{54, "\xf6"},
		{55, "\xf7"},
		{56, "\xf8\x38"},
		{57, "\xf8\x39"},
		{255, "\xf8\xff"},
		{256, "\xf9\x01\x00"},
		{65535, "\xf9\xff\xff"},
		{65536, "\xfa\x01\x00\x00"},
		{1048572, "\xfa\x0f\xff\xfc"},
	} {
		single := list(slices.Repeat([]rlp.Item{str("a")}, c.n)...)
		checkForm(t, single, c.head+as(c.n), "a list of single bytes")
		empty := list(slices.Repeat([]rlp.Item{list()}, c.n)...)
		checkForm(t, empty, c.head+strings.Repeat("\xc0", c.n), "a list of empty lists")
	}
	checkForm(t, list(str(as(54))), "\xf7\xb6"+as(54), "a list of one string, 55 bytes together")
	checkForm(t, list(str(as(55))), "\xf8\x38\xb7"+as(55), "a list of one string, 56 bytes together")
	checkForm(t, list(str("b"), list(str("\x80"), str("")), str("cd")), "\xc8b\xc3\x81\x80\x80\x82cd", "a mixed list")
}

func TestFormOfManyItems(t *testing.T) {
	for _, x := range manyItems() {
		checkForm(t, x, wantForm(x), "an item")
	}
}

func TestNilAndEmptyAreOne(t *testing.T) {
	none, noItems := []byte{}, []rlp.Item{}
	for _, x := range []rlp.Item{{}, {Bytes: none}, {Items: noItems}, {Bytes: none, Items: noItems}} {
		checkForm(t, x, "\x80", "R4: the empty string")
		if n, e := x.Int(); n != 0 || e != api.OK {
			t.Errorf("R4: Int of the empty string: %d, %d", n, e)
		}
		x.List = true
		checkForm(t, x, "\xc0", "R4: the empty list")
		checkForm(t, list(x, x), "\xc2\xc0\xc0", "R4: two empty lists")
	}
	for _, b := range [][]byte{nil, none} {
		if x, p, e := rlp.Decode(b); !isZero(x) || p != 0 || e != api.ErrShort {
			t.Errorf("R4: Decode of nothing: %v, %d, %d", x, p, e)
		}
	}
}

func TestLongestForm(t *testing.T) {
	checkForm(t, str(as(1048572)), "\xba\x0f\xff\xfc"+as(1048572), "a form of MaxItem bytes")
	for _, n := range []int{1048573, 1048574, 1048575, 1048576, 1048577, 2000000} {
		checkRefused(t, str(as(n)), api.ErrLength, "a string with a form beyond MaxItem")
	}
	half := str(as(524284)) // its form has 524288 bytes
	rest := str(as(524280)) // its form has 524284 bytes
	full := list(half, rest)
	checkForm(t, full, listForm(half, rest), "a list with a form of MaxItem bytes")
	if n := len(listForm(half, rest)); n != api.MaxItem {
		t.Errorf("the list's form has %d bytes, not MaxItem", n)
	}
	longer := str(as(524281))
	for what, x := range map[string]rlp.Item{
		"one byte more in its last item":   list(half, longer),
		"one byte more in its first item":  list(str(as(524285)), rest),
		"an item more":                     list(half, rest, str("a")),
		"a list more around it":            list(full),
		"an item beyond MaxItem in it":     list(str(as(1048576))),
		"many items beyond MaxItem":        list(half, half, half, half, half),
		"one deep within, with lists more": within(str(as(1048572)), 3),
		"behind it a list":                 list(full, list()),
	} {
		checkRefused(t, x, api.ErrLength, what)
	}
}

func TestDepth(t *testing.T) {
	for _, n := range []int{0, 1, 2, 78, 79} {
		x := within(list(), n)
		checkForm(t, x, wantForm(x), "at most 80 lists in one another")
		x = within(str("dog"), n+1)
		checkForm(t, x, wantForm(x), "a string in at most 80 lists")
	}
	for what, x := range map[string]rlp.Item{
		"81 lists":                             within(list(), 80),
		"82 lists":                             within(list(), 81),
		"300 lists":                            within(list(), 299),
		"81 lists over a string":               within(str("a"), 81),
		"81 lists, the first item less deep":   list(str("a"), list(), within(list(), 79)),
		"81 lists, the last item less deep":    list(within(list(), 79), list(), str("a")),
		"81 lists, parting in the midst":       within(list(list(), within(list(), 39), str("")), 40),
		"81 lists, the innermost one has some": within(list(str("a"), str("b")), 80),
	} {
		checkRefused(t, x, api.ErrDeep, what)
	}
}

func TestDepthComesFirst(t *testing.T) {
	tooDeep := within(list(), 80)
	long := str(as(1048577))
	wrongString := rlp.Item{Bytes: []byte("a"), Items: []rlp.Item{list()}}
	wrongList := rlp.Item{List: true, Bytes: []byte("a")}
	for what, x := range map[string]rlp.Item{
		"a list with Bytes innermost":        within(wrongList, 80),
		"a list with Bytes outermost":        {List: true, Bytes: []byte("a"), Items: []rlp.Item{within(list(), 79)}},
		"lists with Bytes all the way":       wrongLists(81),
		"a string with Items innermost":      within(wrongString, 81),
		"a string with Items ahead of it":    list(wrongString, tooDeep),
		"a string with Items behind it":      list(tooDeep, wrongString),
		"a list with Bytes ahead of it":      list(wrongList, within(list(), 79)),
		"too long ahead of it":               list(long, tooDeep),
		"too long behind it":                 list(tooDeep, long),
		"all of it":                          list(wrongList, long, wrongString, within(list(), 79)),
		"a string that is too long, in 81":   within(long, 81),
		"a list with too many Bytes, in 80 ": within(rlp.Item{List: true, Bytes: long.Bytes}, 80),
	} {
		checkRefused(t, x, api.ErrDeep, what)
	}
	for what, x := range map[string]rlp.Item{
		"Items of a string, in 80 lists":      within(wrongString, 80),
		"deep Items of a string":              {Items: []rlp.Item{tooDeep}},
		"deep Items of a string, in a list":   list(rlp.Item{Bytes: []byte("a"), Items: []rlp.Item{tooDeep}}),
		"deep Items of a string, in 80 lists": within(rlp.Item{Items: []rlp.Item{tooDeep}}, 80),
		"80 lists with Bytes":                 wrongLists(80),
	} {
		checkRefused(t, x, api.ErrForm, what)
	}
}

// wrongLists tells so many lists in one another, all with Bytes.
func wrongLists(n int) rlp.Item {
	x := rlp.Item{List: true, Bytes: []byte("a")}
	for range n - 1 {
		x = rlp.Item{List: true, Bytes: []byte("a"), Items: []rlp.Item{x}}
	}
	return x
}

// TestEndless: a list that stands in itself is deeper than any number.
func TestEndless(t *testing.T) {
	items := make([]rlp.Item, 3)
	for i := range items {
		items[i] = rlp.Item{List: true, Items: items}
	}
	checkRefused(t, list(items...), api.ErrDeep, "a list that stands in itself")
}

func TestItemsThatMayNotBe(t *testing.T) {
	long := str(as(1048577))
	for what, wrong := range map[string]rlp.Item{
		"a string with an item":                  {Items: []rlp.Item{{}}},
		"a string with Bytes and an item":        {Bytes: []byte("a"), Items: []rlp.Item{str("a")}},
		"a string with a list in it":             {Items: []rlp.Item{list(str("a"))}},
		"a list with Bytes":                      {List: true, Bytes: []byte("a")},
		"a list with a byte of 0":                {List: true, Bytes: []byte{0}},
		"a list with Bytes and items":            {List: true, Bytes: []byte("ab"), Items: []rlp.Item{str("a")}},
		"a list with too many Bytes":             {List: true, Bytes: long.Bytes},
		"a string with an item that is too long": {Items: []rlp.Item{long}},
	} {
		checkRefused(t, wrong, api.ErrForm, what)
		checkRefused(t, list(wrong), api.ErrForm, what+", in a list")
		checkRefused(t, list(str("a"), wrong), api.ErrForm, what+", last in a list")
		checkRefused(t, list(wrong, str("a")), api.ErrForm, what+", first in a list")
		checkRefused(t, within(list(list(), wrong, list()), 40), api.ErrForm, what+", in 41 lists")
		checkRefused(t, within(wrong, 79), api.ErrForm, what+", in 79 lists")
		checkRefused(t, list(long, wrong), api.ErrForm, what+", behind what is too long")
		checkRefused(t, list(wrong, long), api.ErrForm, what+", ahead of what is too long")
	}
}

// spoiled tells an item with one thing of the three made wrong somewhere in it, now and then.
func spoiled(r *rand.Rand, lists int) rlp.Item {
	x := someItem(r, lists)
	if r.Intn(6) == 0 {
		x.Bytes = append(x.Bytes, 'a')
	}
	if r.Intn(6) == 0 {
		x.Items = append(x.Items, spoiled(r, max(lists-1, 0)))
	}
	return x
}

// wantRefusal tells the error of 5.2, each asked by itself.
func wantRefusal(x rlp.Item) api.Errno {
	switch {
	case depthOf(x) > 80:
		return api.ErrDeep
	case !right(x):
		return api.ErrForm
	case len(wantForm(x)) > 1048576:
		return api.ErrLength
	}
	return api.OK
}

func depthOf(x rlp.Item) int {
	depth := 0
	if x.List {
		depth = 1
		for _, y := range x.Items {
			depth = max(depth, 1+depthOf(y))
		}
	}
	return depth
}

func right(x rlp.Item) bool {
	if x.List {
		return len(x.Bytes) == 0 && !slices.ContainsFunc(x.Items, func(y rlp.Item) bool { return !right(y) })
	}
	return len(x.Items) == 0
}

func TestWhichErrorComesFirst(t *testing.T) {
	r := rand.New(rand.NewSource(52))
	met := map[api.Errno]int{}
	for i := range 3000 {
		x := within(spoiled(r, i%5), 76+i%5)
		if i%31 == 0 {
			x = list(str(as(1048000+r.Intn(600))), spoiled(r, i%5))
		}
		want := wantRefusal(x)
		met[want]++
		b, e := rlp.Encode(x)
		if e != want || e != api.OK && len(b) != 0 || e == api.OK && string(b) != wantForm(x) {
			t.Fatalf("5.2: Encode answers %d bytes, %d, not %d", len(b), e, want)
		}
	}
	for _, e := range []api.Errno{api.OK, api.ErrDeep, api.ErrForm, api.ErrLength} {
		if met[e] < 10 {
			t.Errorf("only %d items met %d", met[e], e)
		}
	}
}
