// Package octet is layer 1: bytes and nibbles: see shared/doc/01-octet.md.
package octet

import "cairn/api"

// digits serves both ways of P1.6, so that what Hex writes and what Unhex reads can't drift apart.
var digits = [16]byte{'0', '1', '2', '3', '4', '5', '6', '7', '8', '9', 'a', 'b', 'c', 'd', 'e', 'f'}

// Nibbles tells the nibbles of bytes, the higher one first.
func Nibbles(b []byte) []byte {
	out := make([]byte, 2*len(b))
	for i, x := range b {
		out[2*i] = x >> 4
		out[2*i+1] = x & 15
	}
	return out
}

// Bytes tells the bytes of nibbles.
func Bytes(n []byte) ([]byte, api.Errno) {
	if len(n)%2 != 0 {
		return nil, api.ErrInput
	}
	out := make([]byte, len(n)/2)
	for i := range out {
		high, low := n[2*i], n[2*i+1]
		if high > 15 || low > 15 {
			return nil, api.ErrInput
		}
		out[i] = 16*high + low
	}
	return out, api.OK
}

// Common tells how many bytes two strings have in common at their beginnings.
func Common(a, b []byte) int {
	shorter := min(len(a), len(b))
	for k := range shorter {
		if a[k] != b[k] {
			return k
		}
	}
	return shorter
}

// Compare tells -1, 0, 1: which one stands first.
func Compare(a, b []byte) int {
	k := Common(a, b)
	switch {
	case k == len(a) && k == len(b):
		return 0
	case k == len(a):
		return -1
	case k == len(b):
		return 1
	case a[k] < b[k]:
		return -1
	}
	return 1
}

// Within tells whether a key lies within bounds.
func Within(key []byte, b api.Bounds) bool {
	if Compare(b.From, key) > 0 {
		return false
	}
	return b.Open || Compare(key, b.To) < 0
}

// Hex tells bytes as a text.
func Hex(b []byte) string {
	out := make([]byte, 2*len(b))
	for i, x := range b {
		out[2*i] = digits[x>>4]
		out[2*i+1] = digits[x&15]
	}
	return string(out)
}

// Unhex tells a text's bytes.
func Unhex(s string) ([]byte, api.Errno) {
	if len(s)%2 != 0 {
		return nil, api.ErrHex
	}
	out := make([]byte, len(s)/2)
	for i := range out {
		high, isHigh := digitValue(s[2*i])
		low, isLow := digitValue(s[2*i+1])
		if !isHigh || !isLow {
			return nil, api.ErrHex
		}
		out[i] = 16*high + low
	}
	return out, api.OK
}

// digitValue tells which of the sixteen digits a character is, and whether it is one.
func digitValue(c byte) (byte, bool) {
	for v := range len(digits) {
		if digits[v] == c {
			return byte(v), true
		}
	}
	return 0, false
}
