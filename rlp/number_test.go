package rlp_test

import (
	"math"
	"math/rand"
	"testing"

	"cairn/api"
	"cairn/rlp"
)

func TestNumber(t *testing.T) {
	for _, c := range []struct {
		n int64
		s string
	}{
		{0, ""},
		{1, "\x01"},
		{127, "\x7f"},
		{128, "\x80"},
		{255, "\xff"},
		{256, "\x01\x00"},
		{1024, "\x04\x00"},
		{65535, "\xff\xff"},
		{65536, "\x01\x00\x00"},
		{1 << 24, "\x01\x00\x00\x00"},
		{1<<32 - 1, "\xff\xff\xff\xff"},
		{1 << 32, "\x01\x00\x00\x00\x00"},
		{1 << 55, "\x80\x00\x00\x00\x00\x00\x00"},
		{1 << 56, "\x01\x00\x00\x00\x00\x00\x00\x00"},
		{math.MaxInt64, "\x7f\xff\xff\xff\xff\xff\xff\xff"},
	} {
		if x, e := rlp.Number(c.n); e != api.OK || !same(x, str(c.s)) {
			t.Errorf("5.5: Number(%d) = %+v, %d, not %x", c.n, x, e, c.s)
		}
		if n, e := str(c.s).Int(); e != api.OK || n != c.n {
			t.Errorf("5.6: Int of %x = %d, %d, not %d", c.s, n, e, c.n)
		}
	}
	for _, n := range []int64{-1, -2, -128, -256, math.MinInt32, math.MinInt64 + 1, math.MinInt64} {
		if x, e := rlp.Number(n); e != api.ErrInput || !isZero(x) {
			t.Errorf("5.5: Number(%d) = %+v, %d, not ErrInput alone", n, x, e)
		}
	}
}

func TestNumberAndBack(t *testing.T) {
	r := rand.New(rand.NewSource(55))
	for i := range 20000 {
		n := r.Int63() >> (i % 63)
		if i < 1000 {
			n = int64(i)
		}
		x, e := rlp.Number(n)
		if e != api.OK || !same(x, str(wantDigits(uint64(n)))) {
			t.Fatalf("5.5: Number(%d) = %+v, %d", n, x, e)
		}
		if back, e := x.Int(); e != api.OK || back != n {
			t.Fatalf("5.6: Int of Number(%d) = %d, %d", n, back, e)
		}
		b, e := rlp.Encode(x)
		if y, _, e2 := rlp.Decode(b); e != api.OK || e2 != api.OK || !same(x, y) {
			t.Fatalf("5.7: Decode of Encode of Number(%d) = %+v, %d, %d", n, y, e, e2)
		}
	}
}

func TestIntOfWhatIsNoNumber(t *testing.T) {
	for what, x := range map[string]rlp.Item{
		"a byte of 0":                     str("\x00"),
		"two bytes of 0":                  str("\x00\x00"),
		"a 0 ahead of a 1":                str("\x00\x01"),
		"a 0 ahead of the greatest":       str("\x00\x7f\xff\xff\xff\xff\xff\xff\xff"),
		"a 0 ahead of seven bytes":        str("\x00\x01\x01\x01\x01\x01\x01\x01"),
		"one above the greatest":          str("\x80\x00\x00\x00\x00\x00\x00\x00"),
		"eight bytes ff":                  str("\xff\xff\xff\xff\xff\xff\xff\xff"),
		"nine bytes":                      str("\x01\x00\x00\x00\x00\x00\x00\x00\x00"),
		"nine bytes, whose last make 1":   str("\x01\x00\x00\x00\x00\x00\x00\x00\x01"),
		"many bytes":                      str(as(1000)),
		"an empty list":                   list(),
		"a list of a number":              list(str("\x01")),
		"a list of nine numbers":          listOfAs(9),
		"a list with Bytes":               {List: true, Bytes: []byte{1}},
		"a string with an item":           {Items: []rlp.Item{{}}},
		"a string with Bytes and an item": {Bytes: []byte{1}, Items: []rlp.Item{str("\x01")}},
	} {
		if n, e := x.Int(); n != 0 || e != api.ErrForm {
			t.Errorf("5.6: Int of %s = %d, %d, not 0, ErrForm", what, n, e)
		}
	}
}
