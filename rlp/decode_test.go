package rlp_test

import (
	"math/rand"
	"strconv"
	"strings"
	"testing"

	"cairn/api"
	"cairn/rlp"
)

func checkDecoded(t *testing.T, b string, want rlp.Item, what string) {
	t.Helper()
	if x, p, e := rlp.Decode([]byte(b)); e != api.OK || p != 0 || !same(x, want) {
		t.Errorf("5.3: %s: Decode(%.20x, %d bytes) answers a list (%v) of %d, a string of %d, %d, %d", what, b, len(b), x.List, len(x.Items), len(x.Bytes), p, e)
	}
}

func checkFault(t *testing.T, b string, place int, want api.Errno, what string) {
	t.Helper()
	if x, p, e := rlp.Decode([]byte(b)); e != want || p != place || !isZero(x) {
		t.Errorf("5.3: %s: Decode(%.20x, %d bytes) = zero %v, %d, %d, not zero, %d, %d", what, b, len(b), isZero(x), p, e, place, want)
	}
}

// checkAsSaid holds Decode and Split against the chapter's words.
func checkAsSaid(t *testing.T, b []byte) api.Errno {
	t.Helper()
	x, p, e := rlp.Decode(b)
	wantX, wantP, wantE := wantDecode(b)
	if e != wantE || p != wantP || !same(x, wantX) {
		t.Fatalf("5.3: Decode(%x) = %+v, %d, %d, not %+v, %d, %d", b, x, p, e, wantX, wantP, wantE)
	}
	end, splitE := 0, api.ErrLength
	if len(b) <= 1048576 {
		_, end, splitE = wantRead(b, 0, len(b), 0)
	}
	first, rest, e := rlp.Split(b)
	if e != splitE {
		t.Fatalf("5.4: Split(%x) answers %d, not %d", b, e, splitE)
	}
	if e != api.OK && (len(first) != 0 || len(rest) != 0) {
		t.Fatalf("5.4: Split(%x) = %x, %x beside the error %d", b, first, rest, e)
	}
	if e == api.OK && (string(first) != string(b[:end]) || string(rest) != string(b[end:])) {
		t.Fatalf("5.4: Split(%x) = %x, %x", b, first, rest)
	}
	return wantE
}

func TestExamplesOfForms(t *testing.T) {
	for _, c := range []struct {
		x    rlp.Item
		form string
	}{
		{str(""), "\x80"},
		{str("\x00"), "\x00"},
		{str("\x7f"), "\x7f"},
		{str("\x80"), "\x81\x80"},
		{str("dog"), "\x83\x64\x6f\x67"},
		{list(), "\xc0"},
		{list(str("cat"), str("dog")), "\xc8\x83\x63\x61\x74\x83\x64\x6f\x67"},
		{list(list(), list(list())), "\xc3\xc0\xc1\xc0"},
		{str(as(55)), "\xb7" + as(55)},
		{str(as(56)), "\xb8\x38" + as(56)},
		{str(as(1024)), "\xb9\x04\x00" + as(1024)},
		{listOfAs(56), "\xf8\x38" + as(56)},
	} {
		checkForm(t, c.x, c.form, "an example")
		checkDecoded(t, c.form, c.x, "an example")
	}
}

// listOfAs tells the list of so many strings 61.
func listOfAs(n int) rlp.Item {
	x := list()
	for range n {
		x.Items = append(x.Items, str("a"))
	}
	return x
}

func TestExamplesOfFaults(t *testing.T) {
	deep := wantForm(within(list(), 80))
	if len(deep) != 106 {
		t.Errorf("the form of 81 lists has %d bytes", len(deep))
	}
	for _, c := range []struct {
		b     string
		place int
		e     api.Errno
	}{
		{"", 0, api.ErrShort},
		{"\x81\x7f", 0, api.ErrForm},
		{"\xb8\x37" + as(55), 0, api.ErrForm},
		{"\xb9\x00\x38" + as(56), 0, api.ErrForm},
		{"\xb8", 0, api.ErrShort},
		{"\x83\x61\x62", 0, api.ErrShort},
		{"\x61\x62", 1, api.ErrLong},
		{"\xc2\x83\x61", 1, api.ErrShort},
		{"\xc3\xc0\x81\x05", 2, api.ErrForm},
		{"\xbb\x00", 0, api.ErrShort},
		{"\xbf\xff\xff\xff\xff\xff\xff\xff\xff", 0, api.ErrLength},
		{deep, 105, api.ErrDeep},
	} {
		checkFault(t, c.b, c.place, c.e, "an example")
	}
}

// faultyItems are bytes at whose beginning no item can be read, at whatever end: those that end early are faulty
// where their own end is the end too.
func faultyItems() []struct {
	b    string
	e    api.Errno
	what string
} {
	type faulty = struct {
		b    string
		e    api.Errno
		what string
	}
	var out []faulty
	add := func(e api.Errno, what string, all ...string) {
		for _, b := range all {
			out = append(out, faulty{b, e, what})
		}
	}
	for _, base := range []byte{128, 192} {
		for n := range 55 {
			short := string([]byte{base + byte(n) + 1})
			add(api.ErrShort, "a short head with too few bytes", short, short+strings.Repeat("\x80", n))
		}
		for k := 1; k <= 8; k++ {
			head := string([]byte{base + 55 + byte(k)})
			for there := range k {
				add(api.ErrShort, "bytes that end in the head", head+strings.Repeat("\x01", there), head+strings.Repeat("\x00", there), head+strings.Repeat("\xff", there))
			}
			for _, last := range []string{"\x00", "\x37", "\x38", "\xff"} {
				if k > 1 {
					add(api.ErrForm, "a length whose first byte is 0", head+"\x00"+strings.Repeat("\x00", k-2)+last+as(300), head+"\x00"+strings.Repeat("\xff", k-2)+last)
				}
			}
			if k > 3 {
				add(api.ErrLength, "a length of four bytes and more", head+"\x01"+strings.Repeat("\x00", k-1), head+strings.Repeat("\xff", k), head+"\x80"+strings.Repeat("\x00", k-1), head+"\x7f"+strings.Repeat("\xff", k-1)+as(99))
			}
		}
		one, two, three := string([]byte{base + 56}), string([]byte{base + 57}), string([]byte{base + 58})
		for n := range 56 {
			add(api.ErrForm, "a length below 56", one+string([]byte{byte(n)}), one+string([]byte{byte(n)})+as(n), one+string([]byte{byte(n)})+as(n+1))
		}
		add(api.ErrForm, "a length of 0", one+"\x00", two+"\x00\x00", three+"\x00\x00\x00")
		add(api.ErrLength, "a length above MaxItem", three+"\x10\x00\x01", three+"\x10\x00\x01"+as(200), three+"\x11\x00\x00", three+"\xff\xff\xff")
		add(api.ErrShort, "a length of MaxItem", three+"\x10\x00\x00", three+"\x10\x00\x00"+as(200))
		add(api.ErrShort, "a long head with too few bytes", one+"\x38", one+"\x38"+as(55), one+"\xff"+as(254), two+"\x01\x00"+as(255), three+"\x01\x00\x00"+as(65535))
	}
	for c := range 128 {
		add(api.ErrForm, "a single byte below 128 with a head", "\x81"+string([]byte{byte(c)}))
	}
	return out
}

func TestFaultsAtTheTop(t *testing.T) {
	for _, c := range faultyItems() {
		checkFault(t, c.b, 0, c.e, c.what)
	}
}

func TestFaultsWithinLists(t *testing.T) {
	for _, c := range faultyItems() {
		for _, ahead := range []string{"", "a", "\x80", "\xc0", "\x82bc", "\xc2\xc0a", wantForm(str(as(60)))} {
			in := headed(ahead + c.b)
			place := len(in) - len(c.b)
			checkFault(t, in, place, c.e, c.what+", in a list")
			checkFault(t, in+"\x80", place, c.e, c.what+", in a list with bytes behind it")
			checkFault(t, in+as(90), place, c.e, c.what+", in a list with many bytes behind it")
			two := headed("\x83dog" + in + "\x81\x80")
			checkFault(t, two, strings.Index(two, in)+place, c.e, c.what+", in two lists, an item behind it")
		}
		deep := c.b
		for range 79 {
			deep = headed(deep)
		}
		if c.b[0] < 192 {
			deep = headed(deep) // a string's fault may be in all 80
		}
		checkFault(t, deep, len(deep)-len(c.b), c.e, c.what+", in as many lists as may be")
	}
}

func TestItemBehindItsListsEnd(t *testing.T) {
	for _, c := range []struct {
		b     string
		place int
		what  string
	}{
		{"\xc1\x82ab", 1, "a string's bytes"},
		{"\xc2\x82ab", 1, "a string's last byte"},
		{"\xc1\x81\x80", 1, "a single byte"},
		{"\xc1\x81\x05", 1, "a single byte that has no head"},
		{"\xc1\xc1\x80", 1, "a list's items"},
		{"\xc2a\xc2ab", 2, "a list's items, behind an item"},
		{"\xc1\xb8\x38" + as(56), 1, "a string's length"},
		{"\xc2\xb8\x38" + as(56), 1, "a string's bytes, a long one"},
		{"\xc1\xf8\x38" + as(56), 1, "a list's length"},
		{"\xc1\xb8\x00", 1, "a length whose first byte is 0"},
		{"\xc2\xb9\x01\x00" + as(256), 1, "a length's second byte"},
		{"\xc5\xc3\x84abcd", 2, "a string in two lists, beyond both"},
		{"\xc5\xc1\x84abcd", 2, "a string in two lists, beyond the inner one"},
		{"\xc6\xc2\xc2ab\x80\x80", 2, "a list in two lists, beyond the inner one"},
	} {
		checkFault(t, c.b, c.place, api.ErrShort, c.what)
	}
	checkFault(t, "\xc2\xb8\x37"+as(55), 1, api.ErrForm, "a length below 56, at the list's end")
	checkFault(t, "\xc2\xb8\x00", 1, api.ErrForm, "a length whose first byte is 0, at the list's end")
	checkFault(t, "\xc4\xba\x10\x00\x01", 1, api.ErrLength, "a length above MaxItem, at the list's end")
}

// TestFirstFaultCounts: items are read in their order, and a list's head ahead of its items.
func TestFirstFaultCounts(t *testing.T) {
	for _, c := range []struct {
		b     string
		place int
		e     api.Errno
	}{
		{"\x81\x05\x81\x06", 0, api.ErrForm},
		{"\xc4\x81\x05\x83a", 1, api.ErrForm},
		{"\xc2\x81\x05zz", 1, api.ErrForm},
		{"\xc5\x81\x05", 0, api.ErrShort},
		{"\xf8\x37\x81\x05", 0, api.ErrForm},
		{"\xc6\xc2\x81\x05\x81\x06", 0, api.ErrShort},
		{"\xc5\xc2\x81\x05\x81\x06", 2, api.ErrForm},
		{"\xc6a\xc3\x81\x05b\x83", 3, api.ErrForm},
	} {
		checkFault(t, c.b, c.place, c.e, "the first fault")
	}
}

func TestHeadsInOneAnother(t *testing.T) {
	for _, n := range []int{1, 2, 54, 55, 56, 57, 58, 79, 80} {
		checkDecoded(t, wantForm(within(list(), n-1)), within(list(), n-1), strconv.Itoa(n)+" lists")
		checkDecoded(t, wantForm(within(str("a"), n)), within(str("a"), n), "a string in "+strconv.Itoa(n)+" lists")
		checkDecoded(t, wantForm(within(str(as(60)), n)), within(str(as(60)), n), "a long string in "+strconv.Itoa(n)+" lists")
	}
	for n := 81; n < 90; n++ {
		form := wantForm(within(list(), n-1))
		checkFault(t, form, len(form)-len(wantForm(within(list(), n-81))), api.ErrDeep, strconv.Itoa(n)+" lists")
	}
	for what, innermost := range map[string]string{
		"an empty list":                  "\xc0",
		"a list of a string":             "\xc1a",
		"a long list":                    "\xf8\x38" + as(56),
		"a list that ends early":         "\xc1",
		"a list without its length":      "\xf8",
		"a list with a length of 0":      "\xf8\x00",
		"a list with a length below 56":  "\xf8\x37",
		"a list with too great a length": "\xff\xff\xff\xff\xff\xff\xff\xff\xff",
	} {
		in := innermost
		for range 80 {
			in = headed(in)
		}
		checkFault(t, in, len(in)-len(innermost), api.ErrDeep, what+" in 80 lists")
	}
	side := headed(wantForm(str("a")) + wantForm(within(list(), 78)) + "\x80" + wantForm(within(list(), 79)) + "\x81\x05")
	checkFault(t, side, len(side)-3, api.ErrDeep, "one too deep beside one that is not")
}

func TestBytesBehind(t *testing.T) {
	for _, form := range []string{"a", "\x80", "\x81\x80", "\x83dog", "\xc0", "\xc1a", "\xb8\x38" + as(56), "\xf8\x38" + as(56)} {
		for _, behind := range []string{"\x00", "a", "\x80", "\xc0", "\xb8", "\x81\x05", "\xff", "\x83dog", as(100)} {
			checkFault(t, form+behind, len(form), api.ErrLong, "bytes behind the item")
		}
	}
}

func TestLongestBytes(t *testing.T) {
	text := "\xba\x0f\xff\xfc" + as(1048572)
	checkDecoded(t, text, str(as(1048572)), "a string's form of MaxItem bytes")
	checkDecoded(t, "\xfa\x0f\xff\xfc"+as(1048572), listOfAs(1048572), "a list's form of MaxItem bytes")
	checkFault(t, text[:1048575], 0, api.ErrShort, "a byte less than MaxItem")
	checkFault(t, "a"+text[:1048575], 1, api.ErrLong, "MaxItem bytes with bytes behind the item")
	checkFault(t, "\xba\x10\x00\x00"+as(1048572), 0, api.ErrShort, "MaxItem bytes with a length of MaxItem")
	for what, b := range map[string]string{
		"a form and a byte":        text + "a",
		"a string of MaxItem":      "\xba\x10\x00\x00" + as(1048576),
		"a string of one more":     "\xba\x10\x00\x01" + as(1048577),
		"single bytes":             as(1048577),
		"a fault at the beginning": "\x81\x05" + as(1048575),
		"heads alone":              strings.Repeat("\xc1", 1048577),
		"twice MaxItem":            as(2 * 1048576),
	} {
		checkFault(t, b, 0, api.ErrLength, what+", more than MaxItem bytes")
		if first, rest, e := rlp.Split([]byte(b)); e != api.ErrLength || len(first) != 0 || len(rest) != 0 {
			t.Errorf("5.4: %s: Split answers %d, %d bytes, %d, not ErrLength alone", what, len(first), len(rest), e)
		}
	}
	first, rest, e := rlp.Split([]byte(as(1048576)))
	if e != api.OK || string(first) != "a" || string(rest) != as(1048575) {
		t.Errorf("5.4: Split of MaxItem bytes: %d, %d bytes, %d", len(first), len(rest), e)
	}
}

func TestSplit(t *testing.T) {
	for _, c := range []struct {
		b, first, rest string
		e              api.Errno
	}{
		{"a", "a", "", api.OK},
		{"\x80", "\x80", "", api.OK},
		{"\xc0", "\xc0", "", api.OK},
		{"\x83dog", "\x83dog", "", api.OK},
		{"\x83dog\x83cat", "\x83dog", "\x83cat", api.OK},
		{"ab", "a", "b", api.OK},
		{"\xc2abc", "\xc2ab", "c", api.OK},
		{"\x80\xc0", "\x80", "\xc0", api.OK},
		{"\xc3\xc0\xc1\xc0\x83dog\x00", "\xc3\xc0\xc1\xc0", "\x83dog\x00", api.OK},
		{"a\x81\x05", "a", "\x81\x05", api.OK}, // what is behind isn't looked at
		{"\x80\xb8", "\x80", "\xb8", api.OK},
		{"", "", "", api.ErrShort},
		{"\x83do", "", "", api.ErrShort},
		{"\xb8", "", "", api.ErrShort},
		{"\x81\x05a", "", "", api.ErrForm},
		{"\xc2\x81\x05a", "", "", api.ErrForm},
		{"\xc1\x82abc", "", "", api.ErrShort},
		{"\xbf\xff\xff\xff\xff\xff\xff\xff\xff", "", "", api.ErrLength},
		{wantForm(within(list(), 80)), "", "", api.ErrDeep},
		{wantForm(within(list(), 79)) + "z", wantForm(within(list(), 79)), "z", api.OK},
	} {
		first, rest, e := rlp.Split([]byte(c.b))
		if string(first) != c.first || string(rest) != c.rest || e != c.e {
			t.Errorf("5.4: Split(%.20x) = %.20x, %.20x, %d, not %.20x, %.20x, %d", c.b, first, rest, e, c.first, c.rest, c.e)
		}
	}
}

func TestEveryTwoBytes(t *testing.T) {
	checkAsSaid(t, nil)
	for c := range 256 {
		checkAsSaid(t, []byte{byte(c)})
		for d := range 256 {
			checkAsSaid(t, []byte{byte(c), byte(d)})
		}
	}
}

func TestEveryFewBytesAtTheEdges(t *testing.T) {
	edges := []byte{0, 0x37, 0x38, 0x7f, 0x80, 0x81, 0x82, 0xb8, 0xb9, 0xc0, 0xc1, 0xc2, 0xc3, 0xf8}
	met := map[api.Errno]int{}
	last := [][]byte{nil}
	for range 4 {
		var next [][]byte
		for _, b := range last {
			for _, c := range edges {
				longer := append(append([]byte{}, b...), c)
				met[checkAsSaid(t, longer)]++
				next = append(next, longer)
			}
		}
		last = next
	}
	for _, e := range []api.Errno{api.OK, api.ErrShort, api.ErrLong, api.ErrForm} {
		if met[e] < 50 {
			t.Errorf("only %d lists of bytes met %d", met[e], e)
		}
	}
}

// altered tells bytes with one thing done to them: one turned, one taken, one put in, an end cut off, or added.
func altered(r *rand.Rand, form string) []byte {
	edges := []byte{0, 1, 0x37, 0x38, 0x7f, 0x80, 0x81, 0xb7, 0xb8, 0xb9, 0xbb, 0xbf, 0xc0, 0xc1, 0xf7, 0xf8, 0xf9, 0xff}
	at, c := r.Intn(len(form)), string(edges[r.Intn(len(edges)):][:1])
	switch r.Intn(6) {
	case 0:
		return []byte(form[:at] + c + form[at+1:])
	case 1:
		return []byte(form[:at] + form[at+1:])
	case 2:
		return []byte(form[:at] + c + form[at:])
	case 3:
		return []byte(form[:at])
	case 4:
		return []byte(form + c)
	}
	b := []byte(form)
	b[at] += byte(r.Intn(3)) - 1
	return b
}

func TestAlteredForms(t *testing.T) {
	r := rand.New(rand.NewSource(53))
	met := map[api.Errno]int{}
	for i := range 20000 {
		form := wantForm(someItem(r, 1+i%5))
		if i%4 == 0 {
			form = wantForm(within(someItem(r, 3), 76+r.Intn(4)))
		}
		b := altered(r, form)
		if i%3 == 0 && len(b) > 0 {
			b = altered(r, string(b))
		}
		met[checkAsSaid(t, b)]++
	}
	for _, e := range []api.Errno{api.OK, api.ErrShort, api.ErrLong, api.ErrForm, api.ErrDeep, api.ErrLength} {
		if met[e] < 20 {
			t.Errorf("only %d lists of bytes met %d", met[e], e)
		}
	}
}
