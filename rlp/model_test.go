package rlp_test

import (
	"bytes"
	"encoding/binary"
	"math/rand"
	"slices"
	"strings"

	"cairn/api"
	"cairn/rlp"
)

// str tells a string's item.
func str(s string) rlp.Item { return rlp.Item{Bytes: []byte(s)} }

// list tells a list's item.
func list(items ...rlp.Item) rlp.Item { return rlp.Item{List: true, Items: items} }

// as tells so many bytes 61.
func as(n int) string { return strings.Repeat("a", n) }

// within tells an item in so many lists, one in another.
func within(x rlp.Item, lists int) rlp.Item {
	for range lists {
		x = list(x)
	}
	return x
}

// same tells whether two items are one; nil and a list without elements are (R4).
func same(x, y rlp.Item) bool {
	return x.List == y.List && bytes.Equal(x.Bytes, y.Bytes) && slices.EqualFunc(x.Items, y.Items, same)
}

// isZero tells whether an item is the zero one.
func isZero(x rlp.Item) bool { return same(x, rlp.Item{}) }

// wantDigits tells a number's bytes: all eight, less the zeros at their beginning.
func wantDigits(n uint64) string {
	return strings.TrimLeft(string(binary.BigEndian.AppendUint64(nil, n)), "\x00")
}

// wantHead tells the head of a length, as 5.1 says it.
func wantHead(n, base int) string {
	if n < 56 {
		return string([]byte{byte(base + n)})
	}
	digits := wantDigits(uint64(n))
	return string([]byte{byte(base + 55 + len(digits))}) + digits
}

// wantForm tells the form of an item that may be, as 5.1 says it.
func wantForm(x rlp.Item) string {
	if !x.List && len(x.Bytes) == 1 && x.Bytes[0] < 128 {
		return string(x.Bytes)
	}
	if !x.List {
		return wantHead(len(x.Bytes), 128) + string(x.Bytes)
	}
	return listForm(x.Items...)
}

// listForm tells the form of the list of items.
func listForm(items ...rlp.Item) string {
	var forms strings.Builder
	for _, y := range items {
		forms.WriteString(wantForm(y))
	}
	return headed(forms.String())
}

// headed tells bytes with a list's head ahead of them, whether they are forms or not.
func headed(forms string) string { return wantHead(len(forms), 192) + forms }

// wantRead reads an item at p within end, in so many lists, by the seven steps of 5.3; the answers of a fault are
// the zero Item, its place and its error, else the place is the item's end.
func wantRead(b []byte, p, end, lists int) (rlp.Item, int, api.Errno) {
	fault := func(e api.Errno) (rlp.Item, int, api.Errno) { return rlp.Item{}, p, e }
	if p == end { // 1
		return fault(api.ErrShort)
	}
	c := int(b[p])
	if c < 128 { // 2
		return str(string(b[p : p+1])), p + 1, api.OK
	}
	if c >= 192 && lists > 79 { // 3
		return fault(api.ErrDeep)
	}
	m, at := c-128, p+1 // 4
	if c >= 192 {
		m = c - 192
	}
	n := uint64(m)
	if m >= 56 {
		k := m - 55
		if end-at < k {
			return fault(api.ErrShort)
		}
		if b[at] == 0 {
			return fault(api.ErrForm)
		}
		n = binary.BigEndian.Uint64(append(make([]byte, 8-k), b[at:at+k]...))
		if n > 1048576 {
			return fault(api.ErrLength)
		}
		if n < 56 {
			return fault(api.ErrForm)
		}
		at += k
	}
	if uint64(end-at) < n { // 5
		return fault(api.ErrShort)
	}
	stop := at + int(n)
	if c < 192 { // 6
		if n == 1 && b[at] < 128 {
			return fault(api.ErrForm)
		}
		return str(string(b[at:stop])), stop, api.OK
	}
	var items []rlp.Item // 7
	for at < stop {
		y, next, e := wantRead(b, at, stop, lists+1)
		if e != api.OK {
			return rlp.Item{}, next, e
		}
		items, at = append(items, y), next
	}
	return list(items...), stop, api.OK
}

// wantDecode tells what Decode must answer, as 5.3 says it.
func wantDecode(b []byte) (rlp.Item, int, api.Errno) {
	if len(b) > 1048576 {
		return rlp.Item{}, 0, api.ErrLength
	}
	x, p, e := wantRead(b, 0, len(b), 0)
	if e != api.OK {
		return rlp.Item{}, p, e
	}
	if p < len(b) {
		return rlp.Item{}, p, api.ErrLong
	}
	return x, 0, api.OK
}

// someBytes tells a string of a length at or near an edge, or of a few bytes.
func someBytes(r *rand.Rand) string {
	lengths := []int{0, 1, 1, 1, 2, 3, 8, 31, 32, 33, 54, 55, 56, 57, 255, 256, 300}
	b := make([]byte, lengths[r.Intn(len(lengths))])
	r.Read(b)
	return string(b)
}

// someItem tells an item that may be, with at most so many lists in one another.
func someItem(r *rand.Rand, lists int) rlp.Item {
	if lists == 0 || r.Intn(3) == 0 {
		return str(someBytes(r))
	}
	x := list()
	for range r.Intn(5) {
		x.Items = append(x.Items, someItem(r, lists-1))
	}
	return x
}

// manyItems tells items of many shapes, the same at every run: those at the edges, and without a pattern.
func manyItems() []rlp.Item {
	out := []rlp.Item{list(), list(list(), list(list())), list(str("cat"), str("dog"))}
	for c := range 256 {
		out = append(out, str(string([]byte{byte(c)})), list(str(string([]byte{byte(c)}))))
	}
	for _, n := range []int{0, 2, 54, 55, 56, 57, 254, 255, 256, 257, 1024, 65535, 65536, 70000} {
		out = append(out, str(as(n)), str(strings.Repeat("\x00", n)), list(str(as(n))), list(slices.Repeat([]rlp.Item{str("a")}, n)...))
	}
	for n := range 81 {
		out = append(out, within(list(), n%80), within(str("dog"), n), within(str(""), n), list(within(list(), n%79), str("\x80")))
	}
	r := rand.New(rand.NewSource(5))
	for i := range 600 {
		out = append(out, someItem(r, i%7))
	}
	return out
}
