package proof_test

import (
	"fmt"
	"slices"
	"strings"
	"testing"

	"cairn/api"
	"cairn/proof"
)

// sized tells a string of so many bytes, none of which is like its neighbours.
func sized(n int) string {
	b := make([]byte, n)
	for i := range b {
		b[i] = byte(i*7 + n)
	}
	return string(b)
}

// many tells so many strings of a kind.
func many(n int, s string) []string { return slices.Repeat([]string{s}, n) }

func TestLimitsAndNumbers(t *testing.T) {
	if api.MaxNode != 1024 || api.MaxProof != 131072 || api.ErrInput != 2 || api.ErrProof != 160 || api.ErrHandle != 1 || api.MaxKey != 32 {
		t.Errorf("chapter 15: a limit or an error has another number")
	}
}

func TestExample1(t *testing.T) {
	for _, c := range []struct {
		l    []string
		want string
	}{
		{nil, "\xc0"},
		{[]string{"\xc2\x20\x01"}, "\xc4\x83\xc2\x20\x01"},
		{[]string{"\x78"}, "\xc1\x78"},
		{[]string{"\x81"}, "\xc2\x81\x81"},
	} {
		if b, e := proof.Pack(handIn(c.l).l); string(b) != c.want || e != api.OK {
			t.Errorf("15.1: example 1: Pack of %x is %x, %d", c.l, b, e)
		}
		if l, e := proof.Unpack([]byte(c.want)); !slices.Equal(told(l), c.l) || e != api.OK {
			t.Errorf("15.2: example 1: Unpack of %x is %x, %d", c.want, l, e)
		}
		packs(t, c.l...)
	}
}

func TestExample2(t *testing.T) {
	packsNot(t, "an empty string", "")
	packsNot(t, "a string of 1025 bytes", sized(1025))
	packs(t, sized(1024))
	packsNot(t, "128 strings of 1024 bytes", many(128, sized(1024))...)
	if b := packs(t, many(127, sized(1024))...); len(b) != 130433 || b[:4] != "\xfa\x01\xfd\x7d" {
		t.Errorf("15.1: example 2: %d bytes, the head %x", len(b), b[:4])
	}
}

func TestExample3(t *testing.T) {
	for what, b := range map[string]string{"nothing": "", "an empty string": "\x80", "an empty string in it": "\xc1\x80", "a list in it": "\xc1\xc0", "01 in two bytes": "\xc2\x81\x01", "a byte behind": "\xc0\x00"} {
		isNone(t, "example 3: "+what, b)
	}
}

// Every length, alone and in each place of a list, by which a string's head and a list's head change too.
func TestLengthsOfStrings(t *testing.T) {
	for n := range 1030 {
		if n == 0 || n > 1024 {
			packsNot(t, fmt.Sprintf("a string of %d bytes", n), sized(n))
		} else {
			packs(t, sized(n))
		}
	}
	for size := 1; size <= 5; size++ {
		for at := range size {
			for _, n := range []int{0, 1, 2, 31, 32, 55, 56, 57, 255, 256, 257, 1023, 1024, 1025, 1026, 2048, 65536, 131073} {
				for _, other := range []string{"x", "\x80", sized(40), sized(1024)} {
					l := many(size, other)
					l[at] = sized(n)
					if n == 0 || n > 1024 {
						packsNot(t, fmt.Sprintf("%d strings, %d bytes at place %d", size, n, at), l...)
					} else {
						packs(t, l...)
					}
				}
			}
		}
	}
}

func TestSingleBytes(t *testing.T) {
	for i := range 256 {
		s := string([]byte{byte(i)})
		want := "\xc1" + s
		if i >= 0x80 {
			want = "\xc2\x81" + s
		}
		if b := packs(t, s); b != want {
			t.Errorf("15.1: Pack of the byte %x is %x", i, b)
		}
		if i < 0x80 {
			isNone(t, "a single byte below 80 with a head", "\xc2\x81"+s)
		}
		packs(t, s, s)
		packs(t, s, "two", s)
		packs(t, s+s)
	}
}

// The list's head in all its forms.
func TestLengthsOfLists(t *testing.T) {
	for n := range 300 {
		packs(t, many(n, "a")...)
		packs(t, many(n, "\xa0")...)
		packs(t, many(n, "a node")...)
	}
	for n := 65534; n < 65538; n++ {
		packs(t, many(n, "a")...)
	}
	for n := range 20 {
		packs(t, append(many(63, sized(1024)), sized(820+n))...) // 64701 bytes and 823 more
		packs(t, append(many(30, sized(1)), sized(20+n))...)
	}
}

// Just MaxProof bytes, and one more, of strings of several lengths.
func TestListsAtMaxProof(t *testing.T) {
	for what, l := range map[string][]string{
		"single bytes":             many(131068, "a"),
		"bytes with a head":        many(65534, "\x80"),
		"bytes with a head, one":   append(many(65532, "\x80"), "ab", "c"),
		"short strings":            append(many(131068/41, sized(40)), many(131068%41, "a")...),
		"strings of 1024 bytes":    append(many(127, sized(1024)), sized(131068-127*1027-3)),
		"the short one ahead":      append([]string{sized(131068 - 127*1027 - 3)}, many(127, sized(1024))...),
		"many and single ones":     append(many(127, sized(1024)), many(131068-127*1027, "z")...),
		"single ones with a break": append(append(many(60000, "a"), sized(1000)), many(131068-60000-1003, "b")...),
	} {
		form := packs(t, l...)
		if len(form) != 131072 {
			t.Fatalf("15.1: %s: %d bytes", what, len(form))
		}
		judges(t, form)
		isNone(t, what+", and a byte behind", form+"a")
		isNone(t, what+", the last byte cut off", form[:131071])
		packs(t, l[:len(l)-1]...)
		packs(t, l[1:]...)
		over := append(slices.Clone(l), "a")
		if n := len(listOf(over...)); n != 131073 {
			t.Fatalf("%s: the list that is too long has %d bytes", what, n)
		}
		packsNot(t, what+", one more", over...)
		packsNot(t, what+", one more ahead", append([]string{"a"}, l...)...)
		packsNot(t, what+", two more", append(over, "\x80")...)
	}
}

// The strings of a list may be within MaxProof, and only their heads be beyond it.
func TestHeadsCount(t *testing.T) {
	packsNot(t, "131072 bytes in single ones", many(131072, "a")...)
	packsNot(t, "131069 bytes in single ones", many(131069, "a")...)
	packsNot(t, "128 strings of 1021 bytes", many(128, sized(1021))...)
	packs(t, many(128, sized(1020))...)
	packsNot(t, "65536 bytes with a head each", many(65536, "\x80")...)
	packsNot(t, "65535 bytes with a head each", many(65535, "\x80")...)
}

func TestListsFarTooLong(t *testing.T) {
	one, whole := []byte("a"), []byte(sized(1024))
	for what, l := range map[string][][]byte{
		"a million single bytes":                          slices.Repeat([][]byte{one}, 1000000),
		"1048572 single bytes: a form of rlp's MaxItem":   slices.Repeat([][]byte{one}, 1048572),
		"two million single bytes":                        slices.Repeat([][]byte{one}, 2000000),
		"1021 strings of 1024 bytes: beyond MaxItem":      slices.Repeat([][]byte{whole}, 1021),
		"1020 strings of 1024 bytes: within MaxItem":      slices.Repeat([][]byte{whole}, 1020),
		"a million strings of 1024 bytes":                 slices.Repeat([][]byte{whole}, 1000000),
		"a million strings of no byte":                    make([][]byte, 1000000),
		"a million single bytes, and one of no byte":      append(slices.Repeat([][]byte{one}, 1000000), nil),
		"a million single bytes behind one of no byte":    append([][]byte{nil}, slices.Repeat([][]byte{one}, 1000000)...),
		"one string of ten million bytes":                 {make([]byte, 10000000)},
		"one byte, and a string of ten million bytes":     {one, make([]byte, 10000000)},
		"a million single bytes, and one of ten millions": append(slices.Repeat([][]byte{one}, 1000000), make([]byte, 10000000)),
	} {
		if b, e := proof.Pack(l); len(b) != 0 || e != api.ErrInput {
			t.Errorf("15.1: Pack of %s: %d bytes, %d", what, len(b), e)
		}
	}
}

func TestBytesFarTooMany(t *testing.T) {
	for what, b := range map[string]string{
		"a list of MaxProof and one bytes":           listOf(many(131069, "a")...),
		"a list of single bytes, of MaxItem":         listOf(many(1048572, "a")...),
		"a list of single bytes, beyond MaxItem":     listOf(many(1048573, "a")...),
		"a list of 128 strings of 1024 bytes":        listOf(many(128, sized(1024))...),
		"zeros":                                      string(make([]byte, 131073)),
		"ten million zeros":                          string(make([]byte, 10000000)),
		"ten million lists":                          strings.Repeat("\xc0", 10000000),
		"a right one, and MaxProof bytes behind it":  "\xc0" + string(make([]byte, 131072)),
		"a string of MaxProof bytes":                 item(sized(131068)),
		"a list of one string of MaxProof bytes":     listOf(sized(131064)),
		"a list of one string of more than MaxProof": listOf(sized(131072)),
	} {
		isNone(t, what, b)
	}
}

// someProofs are proofs of many kinds, none of them long.
func someProofs() map[string][]string {
	return map[string][]string{
		"none":             {},
		"a byte":           {"a"},
		"a byte from 80":   {"\x80"},
		"two bytes":        {"ab"},
		"a leaf":           {leaf("6b", "v")},
		"three":            {"\x01", "\xff", "abc"},
		"like heads":       {"\xc0", "\x80", "\xb8\x38", "\xf8\x38"},
		"55 bytes":         {sized(55)},
		"56 bytes":         {sized(56)},
		"a payload of 55":  {sized(54)},
		"a payload of 56":  {sized(54), "a"},
		"255 bytes":        {sized(255)},
		"256 bytes":        {sized(256), "b"},
		"a payload of 256": {sized(200), sized(52)},
		"nodes":            {branch("v", kid{1, sibling}), leaf("12", long), ext("12", item(sized(32)))},
	}
}

func TestCutOffAtEveryPlace(t *testing.T) {
	for what, l := range someProofs() {
		b := packs(t, l...)
		for i := range len(b) {
			isNone(t, what+", cut off", b[:i])
			judges(t, b[i:])
		}
		for _, more := range []string{"\x00", "a", "\x80", "\xc0", b, "\x81\x80", sized(300)} {
			isNone(t, what+", and more behind it", b+more)
		}
	}
	whole := packs(t, many(127, sized(1024))...)
	for i := 0; i < len(whole); i += 1009 {
		isNone(t, "127 strings, cut off", whole[:i])
	}
}

func TestEachByteTurned(t *testing.T) {
	for _, l := range someProofs() {
		b := packs(t, l...)
		for i := range len(b) {
			other := []byte(b)
			for x := range 256 {
				if len(b) > 100 && x%17 != 0 && x%64 != 1 {
					continue
				}
				other[i] = byte(x)
				judges(t, string(other))
			}
		}
	}
}

func TestEachByteLeftOutOrDoubled(t *testing.T) {
	for _, l := range someProofs() {
		b := packs(t, l...)
		for i := range len(b) {
			judges(t, b[:i]+b[i+1:])
			judges(t, b[:i]+b[i:i+1]+b[i:])
			judges(t, b[:i]+"\x80"+b[i:])
			judges(t, b[:i]+"\xc0"+b[i:])
		}
	}
}

// What may not stand in a list, in each place of it.
func TestItemsThatMayNotBe(t *testing.T) {
	wrong := map[string]string{
		"an empty string":                 "\x80",
		"an empty list":                   "\xc0",
		"a list of a byte":                "\xc1a",
		"a list of a list":                "\xc1\xc0",
		"a list of strings":               listOf("ab", "cd"),
		"a proof":                         listOf(leaf("6b", "v")),
		"a long list":                     listOf(sized(60)),
		"a node that is no string":        leaf("6b", "v"),
		"lists, 70 deep":                  deepList(70),
		"lists, 200 deep":                 deepList(200),
		"a byte below 80 with a head":     "\x81a",
		"00 with a head":                  "\x81\x00",
		"7f with a head":                  "\x81\x7f",
		"a byte behind a long head":       "\xb8\x01a",
		"no byte behind a long head":      "\xb8\x00",
		"55 bytes behind a long head":     "\xb8\x37" + sized(55),
		"56 bytes, 0 ahead of the length": "\xb9\x00\x38" + sized(56),
		"256 bytes, 0 ahead":              "\xba\x00\x01\x00" + sized(256),
		"1025 bytes":                      item(sized(1025)),
		"2000 bytes":                      item(sized(2000)),
		"66000 bytes":                     item(sized(66000)),
		"a length of 8 bytes":             "\xbf\xff\xff\xff\xff\xff\xff\xff\xff",
		"a length of 8 bytes, 0 ahead":    "\xbf\x00\x00\x00\x00\x00\x00\x00\x38" + sized(56),
	}
	for what, w := range wrong {
		for size := 1; size <= 4; size++ {
			for at := range size {
				for _, other := range []string{"x", "\x80", sized(70)} {
					l := many(size, item(other))
					l[at] = w
					isNone(t, fmt.Sprintf("%s at place %d of %d", what, at, size), list(l...))
				}
			}
		}
		isNone(t, what+", alone", w+w)
	}
}

// deepList is the form of so many lists in one another.
func deepList(n int) string {
	form := ""
	for range n {
		form = list(form)
	}
	return form
}

// What stands where the list must stand, and the list in other forms.
func TestListsThatMayNotBe(t *testing.T) {
	for i := range 256 {
		if i != 0xc0 {
			isNone(t, "one byte that is not c0", string([]byte{byte(i)}))
		}
	}
	for n := range 1100 {
		isNone(t, "a string", item(sized(n)))
	}
	for _, l := range someProofs() {
		right := packs(t, l...)
		_, payload := cutHead(right)
		isNone(t, "a string that has a proof's bytes", item(right))
		isNone(t, "a string that has a list's payload", item(payload))
		n := len(payload)
		for k, h := range []string{
			string([]byte{0xf8, byte(n)}),
			string([]byte{0xf9, byte(n >> 8), byte(n)}),
			string([]byte{0xfa, 0, byte(n >> 8), byte(n)}),
			string([]byte{0xfb, 0, 0, byte(n >> 8), byte(n)}),
			string([]byte{0xff, 0, 0, 0, 0, 0, 0, byte(n >> 8), byte(n)}),
		} {
			if h+payload != right {
				isNone(t, fmt.Sprintf("a length in %d bytes", k+1), h+payload)
			}
		}
		for _, d := range []int{-2, -1, 1, 2, 55} {
			if n+d >= 0 {
				judges(t, head(192, n+d)+payload)
			}
		}
	}
	for n := range 100 {
		isNone(t, "lists in one another", deepList(n+2))
	}
	isNone(t, "lists without an end", strings.Repeat("\xc1", 131072))
	isNone(t, "lists without an end", strings.Repeat("\xff", 131072))
	isNone(t, "lists side by side", head(192, 131068)+strings.Repeat("\xc0", 131068))
	isNone(t, "empty strings side by side", head(192, 131068)+strings.Repeat("\x80", 131068))
}
