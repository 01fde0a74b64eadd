package fetch_test

import (
	"bytes"
	"maps"
	"math/rand"
	"slices"
	"strings"
)

// someKey tells a key: some are dense, some long, some begin as others do.
func someKey(rnd *rand.Rand, kind int) string {
	b := make([]byte, rnd.Intn(33))
	switch kind {
	case 0: // few digits, short: beginnings of one another
		b = b[:min(len(b), rnd.Intn(5))]
		for i := range b {
			b[i] = []byte{0x00, 0x01, 0x10, 0x11, 0xf1, 0xff}[rnd.Intn(6)]
		}
	case 1: // anything
		rnd.Read(b)
	case 2: // the longest ones, with long beginnings in common
		b = bytes.Repeat([]byte{0x5a}, 32)
		for range rnd.Intn(3) {
			b[rnd.Intn(32)] ^= byte(1 << rnd.Intn(8))
		}
	default: // one behind the other
		b = bytes.Repeat([]byte{0x77}, len(b))
	}
	return string(b)
}

func someValue(rnd *rand.Rand) string {
	size := []int{1, 2, 20, 31, 32, 33, 55, 56, 255, 256, 1 + rnd.Intn(256)}[rnd.Intn(11)]
	return strings.Repeat(string([]byte{byte(1 + rnd.Intn(9))}), size)
}

// someMap tells a map of fewer than so many entries.
func someMap(rnd *rand.Rand, most int) map[string]string {
	entries := map[string]string{}
	kind := rnd.Intn(5)
	for range rnd.Intn(most) {
		k := kind
		if kind == 4 {
			k = rnd.Intn(4)
		}
		entries[someKey(rnd, k)] = someValue(rnd)
	}
	return entries
}

// changed tells a map that a few changes lead to.
func changed(rnd *rand.Rand, entries map[string]string) map[string]string {
	out := maps.Clone(entries)
	for range rnd.Intn(4) {
		out[someKey(rnd, rnd.Intn(4))] = someValue(rnd)
	}
	for _, k := range slices.Sorted(maps.Keys(entries)) {
		if rnd.Intn(8) == 0 {
			delete(out, k)
		}
	}
	return out
}

// some tells one of a list.
func some[T any](rnd *rand.Rand, l []T) T { return l[rnd.Intn(len(l))] }

// shuffled tells a list in any order.
func shuffled[T any](rnd *rand.Rand, l []T) []T {
	out := slices.Clone(l)
	rnd.Shuffle(len(out), func(i, j int) { out[i], out[j] = out[j], out[i] })
	return out
}
