package cursor_test

import (
	"fmt"
	"maps"
	"slices"
	"strings"
	"testing"

	"cairn/api"
)

// yard is a trie of seven nodes by their hashes, told by their names, and seven entries, told by letters in their order.
//
//	top     an extension, the root, at no nibble, to 01
//	over    a branch at 01, with the entry A; its kid 1 is a whole leaf: B
//	fork    a branch at 012, its kid 5 is a whole leaf: G
//	middle  an extension at 0123, to 01234567
//	under   a branch at 01234567, with the entry C; its kid 2 is a whole leaf: D
//	end     a leaf at 012345678: E
//	side    a leaf at 0124: F
func yard(r *rig) (root api.Hash, nodes, entries map[string]string) {
	end, side := leaf("9", long), leaf("44", long+" beside")
	under := branch(long+" under", kid{8, r.byHash(end)}, kid{2, leaf("1", "d")})
	middle := ext("4567", r.byHash(under))
	fork := branch("", kid{3, r.byHash(middle)}, kid{4, r.byHash(side)}, kid{5, leaf("1f", "w")})
	over := branch("two", kid{1, leaf("1", "v")}, kid{2, r.byHash(fork)})
	top := ext("01", r.byHash(over))
	nodes = map[string]string{"top": top, "over": over, "fork": fork, "middle": middle, "under": under, "end": end, "side": side}
	entries = map[string]string{
		"A": "\x01", "B": "\x01\x11", "C": "\x01\x23\x45\x67", "D": "\x01\x23\x45\x67\x21", "E": "\x01\x23\x45\x67\x89", "F": "\x01\x24\x44", "G": "\x01\x25\x1f",
	}
	return r.lay(top), nodes, entries
}

// named tells hashes by the names of their nodes.
func named(bits int, nodes map[string]string, asked []api.Hash) string {
	var out []string
	for _, h := range asked {
		name := "another"
		for n, encoding := range nodes {
			if hashOf(bits, encoding) == h {
				name = n
			}
		}
		out = append(out, name)
	}
	return strings.Join(out, " ")
}

// lettered tells the letter of an entry.
func lettered(entries map[string]string, key string) string {
	for letter, k := range entries {
		if k == key {
			return letter
		}
	}
	return "?"
}

// What is read in which order, where the bounds end at a node's place, within an extension's path, ahead of it and behind it.
func TestWhatAScanReads(t *testing.T) {
	for _, bits := range []int{20, 100, 256} {
		r := newRig(t, bits)
		root, nodes, entries := yard(r)
		for i, c := range []struct {
			b     bounds
			limit int
			want  string
			more  bool
			read  string
		}{
			{from(""), 9, "ABCDEFG", false, "top over fork middle under end side"},
			{from(""), 7, "ABCDEFG", false, "top over fork middle under end side"},
			{from(""), 6, "ABCDEF", true, "top over fork middle under end side"},
			{from(""), 5, "ABCDE", true, "top over fork middle under end side"},
			{from(""), 4, "ABCD", true, "top over fork middle under end"},
			{from(""), 3, "ABC", true, "top over fork middle under"},
			{from(""), 2, "AB", true, "top over fork middle under"},
			{from(""), 1, "A", true, "top over"},
			{from(""), 0, "", true, "top over"},
			// The lower bound: on the way to an extension's end, ahead of it, and behind it.
			{from("\x00"), 0, "", true, "top over"},
			{from("\x01"), 0, "", true, "top over"},
			{from("\x02"), 9, "", false, "top"},
			{from("\x01\x00"), 1, "B", true, "top over fork middle under"},
			{from("\x01\x11"), 0, "", true, "top over"},
			{from("\x01\x11\x00"), 0, "", true, "top over fork middle under"},
			{from("\x01\x12"), 0, "", true, "top over fork middle under"},
			{from("\x01\x20"), 0, "", true, "top over fork middle under"},
			{from("\x01\x30"), 9, "", false, "top over"},
			// The second extension has the path from 0123 to 01234567.
			{from("\x01\x23"), 0, "", true, "top over fork middle under"},
			{from("\x01\x23\x44"), 0, "", true, "top over fork middle under"},
			{from("\x01\x23\x45"), 0, "", true, "top over fork middle under"},
			{from("\x01\x23\x46"), 9, "FG", false, "top over fork middle side"},
			{from("\x01\x23\x45\x66"), 0, "", true, "top over fork middle under"},
			{from("\x01\x23\x45\x67"), 0, "", true, "top over fork middle under"},
			{from("\x01\x23\x45\x67\x00"), 0, "", true, "top over fork middle under"},
			{from("\x01\x23\x45\x67\x21"), 1, "D", true, "top over fork middle under end"},
			{from("\x01\x23\x45\x67\x22"), 0, "", true, "top over fork middle under end"},
			{from("\x01\x23\x45\x67\x80"), 1, "E", true, "top over fork middle under end side"},
			{from("\x01\x23\x45\x67\x8a"), 9, "FG", false, "top over fork middle under end side"},
			{from("\x01\x23\x45\x67\x90"), 9, "FG", false, "top over fork middle under side"},
			{from("\x01\x23\x45\x68"), 9, "FG", false, "top over fork middle side"},
			{from("\x01\x23\xff"), 9, "FG", false, "top over fork middle side"},
			{from("\x01\x24"), 1, "F", true, "top over fork side"},
			{from("\x01\x24\x45"), 9, "G", false, "top over fork side"},
			{from("\x01\x25"), 9, "G", false, "top over fork"},
			{from("\x01\x25\x1f"), 9, "G", false, "top over fork"},
			{from("\x01\x25\x20"), 9, "", false, "top over fork"},
			{from("\x01\x26"), 9, "", false, "top over fork"},
			// The upper bound, which is not within.
			{within("", ""), 9, "", false, ""},
			{within("", "\x00"), 9, "", false, "top"},
			{within("", "\x01"), 9, "", false, "top"},
			{within("", "\x01\x00"), 9, "A", false, "top over"},
			{within("", "\x01\x10"), 9, "A", false, "top over"},
			{within("", "\x01\x11"), 9, "A", false, "top over"},
			{within("", "\x01\x11\x00"), 9, "AB", false, "top over"},
			{within("", "\x01\x20"), 9, "AB", false, "top over fork"},
			{within("", "\x01\x23"), 9, "AB", false, "top over fork"},
			{within("", "\x01\x23\x00"), 9, "AB", false, "top over fork middle"},
			{within("", "\x01\x23\x45"), 9, "AB", false, "top over fork middle"},
			{within("", "\x01\x23\x45\x67"), 9, "AB", false, "top over fork middle"},
			{within("", "\x01\x23\x45\x67\x00"), 9, "ABC", false, "top over fork middle under"},
			{within("", "\x01\x23\x45\x67\x80"), 9, "ABCD", false, "top over fork middle under end"},
			{within("", "\x01\x23\x45\x67\x89"), 9, "ABCD", false, "top over fork middle under end"},
			{within("", "\x01\x23\x45\x67\x89\x00"), 9, "ABCDE", false, "top over fork middle under end"},
			{within("", "\x01\x23\x46"), 9, "ABCDE", false, "top over fork middle under end"},
			{within("", "\x01\x24"), 9, "ABCDE", false, "top over fork middle under end"},
			{within("", "\x01\x24\x00"), 9, "ABCDE", false, "top over fork middle under end side"},
			{within("", "\x01\x24\x44\x00"), 9, "ABCDEF", false, "top over fork middle under end side"},
			{within("", "\x01\x25\x1f"), 9, "ABCDEF", false, "top over fork middle under end side"},
			{within("", "\x02"), 9, "ABCDEFG", false, "top over fork middle under end side"},
			{within("", "\xff"), 1, "A", true, "top over"},
			// Both, where they are one, and the wrong way round.
			{within("\x01\x23\x45\x67", "\x01\x23\x45\x67\x00"), 9, "C", false, "top over fork middle under"},
			{within("\x01\x23\x45\x67\x00", "\x01\x23\x45\x67\x80"), 0, "", true, "top over fork middle under"},
			{within("\x01\x23\x45\x67\x22", "\x01\x23\x45\x67\x80"), 9, "", false, "top over fork middle under end"},
			{within("\x01\x23\x45\x67\x22", "\x01\x23\x45\x67\x30"), 9, "", false, "top over fork middle under"},
			{within("\x01\x23\x46", "\x01\x24"), 9, "", false, "top over fork middle"},
			{within("\x01\x23", "\x01\x23"), 9, "", false, "top over fork"},
			{within("\x01\x23\x45\x67\x89", "\x01\x23\x45\x67\x89"), 9, "", false, "top over fork middle under end"},
			{within("\x01\x24", "\x01\x23"), 9, "", false, "top over fork"},
			{within("\x01\x24\x44", "\x01\x23\x46"), 9, "", false, "top over fork"},
			{within("\xff", "\x00"), 9, "", false, "top"},
			{within("\xff", ""), 9, "", false, ""},
			{within("\x01\x11", "\x01\x11"), 9, "", false, "top over"},
		} {
			got, more, e := r.scan("13.4", root, c.b, c.limit)
			letters := ""
			for _, x := range got {
				letters += lettered(entries, x.key)
			}
			if letters != c.want || more != c.more || e != api.OK {
				t.Errorf("13.4: case %d: %v, limit %d: %s, %v, %d, not %s, %v", i, c.b, c.limit, letters, more, e, c.want, c.more)
			}
			if read := named(bits, nodes, r.src.asked); read != c.read {
				t.Errorf("13.4, 13.7: case %d: %v, limit %d: %q are read, not %q", i, c.b, c.limit, read, c.read)
			}
		}
		if !r.book.Sound() {
			t.Errorf("the book is not sound: %d bits are too few for this test", bits)
		}
	}
}

// What each call of a cursor reads, and where it stands behind it.
func TestWhatACursorReads(t *testing.T) {
	r := newRig(t, 256)
	root, nodes, entries := yard(r)
	r.stand(root)
	step := func(what string, call func(promise string) api.Errno, want, read string) {
		t.Helper()
		was := r.here.key
		e := call("13.2: " + what)
		if want == "" && (e != api.ErrEnd || r.here.key != was) || want != "" && (e != api.OK || lettered(entries, r.here.key) != want) {
			t.Errorf("13.2: %s: %d, at %x, not at %s", what, e, r.here.key, want)
		}
		if got := named(256, nodes, r.src.asked); got != read {
			t.Errorf("13.2: %s: %q are read, not %q", what, got, read)
		}
	}
	seek := func(key, want, read string) {
		t.Helper()
		step(fmt.Sprintf("Seek of %x", key), func(p string) api.Errno { return r.seek(p, key) }, want, read)
	}
	step("Next at no entry", r.next, "", "")
	step("Prev at no entry", r.prev, "", "")
	seek("\x02", "", "top")
	step("Next at no entry still", r.next, "", "")
	seek("", "A", "top over")
	step("Prev", r.prev, "", "top")
	step("Next", r.next, "B", "top over")
	step("Next", r.next, "C", "top over fork middle under")
	step("Next", r.next, "D", "top over fork middle under")
	step("Next", r.next, "E", "top over fork middle under end")
	step("Next", r.next, "F", "top over fork middle under end side")
	step("Next", r.next, "G", "top over fork side")
	step("Next", r.next, "", "top over fork")
	step("Last", r.last, "G", "top over fork")
	step("Prev", r.prev, "F", "top over fork side")
	step("Prev", r.prev, "E", "top over fork side middle under end")
	step("Prev", r.prev, "D", "top over fork middle under end")
	step("Prev", r.prev, "C", "top over fork middle under")
	step("Prev", r.prev, "B", "top over fork middle")
	step("Prev", r.prev, "A", "top over")
	step("Prev", r.prev, "", "top")
	seek("\x01\x23\x46", "F", "top over fork middle side")
	seek("\x01\x25\x1f", "G", "top over fork")
	seek("\x01\x25\x20", "", "top over fork")
	seek("\x01\x23\x45\x67\x89", "E", "top over fork middle under end")
	seek("\x01\x23\x45\x67\x89\x00", "F", "top over fork middle under end side")
	seek(strings.Repeat("\xff", 32), "", "top")
	seek("\x01", "A", "top over")
	seek("\x01\x00", "B", "top over")
	seek("\x01\x12", "C", "top over fork middle under")
}

// Each call walks anew: a source whose nodes have changed since is read as it is now, but an entry is told as it was met.
func TestEachCallWalksAnew(t *testing.T) {
	r := newRig(t, 256)
	root, nodes, entries := yard(r)
	r.stand(root)
	r.seek("13.2", entries["C"])
	for _, encoding := range nodes {
		delete(r.src.blobs, hashOf(256, encoding))
	}
	r.look("13.3: all nodes are lost")
	for _, e := range []api.Errno{r.next("13.2"), r.prev("13.2"), r.last("13.2"), r.seek("13.2", entries["C"])} {
		if e != api.ErrAbsent {
			t.Errorf("13.2: all nodes are lost: %d", e)
		}
	}
	yard(r)
	if e := r.next("13.2: they are there again"); e != api.OK || r.here.key != entries["D"] {
		t.Errorf("13.2: %d", e)
	}
}

// keysAround tells all keys that end at a place on the way of one of these keys, or just beside it.
func keysAround(keys []string) []string {
	set := map[string]struct{}{"": {}, "\x00": {}, "\xff": {}, strings.Repeat("\xff", 32): {}}
	for _, k := range keys {
		for n := range len(k) + 1 {
			set[k[:n]] = struct{}{}
			if n > 0 {
				for _, d := range []int{-16, -1, 1, 16} {
					set[k[:n-1]+string([]byte{byte(int(k[n-1]) + d)})] = struct{}{}
				}
			}
		}
		if len(k) < 32 {
			set[k+"\x00"], set[k+"\xff"] = struct{}{}, struct{}{}
		}
	}
	return slices.Sorted(maps.Keys(set))
}

// All bounds around the entries of some tries, with all limits.
func TestAllBounds(t *testing.T) {
	for i, keys := range [][]string{
		{"\x01", "\x01\x11", "\x01\x23\x45\x67", "\x01\x23\x45\x67\x21", "\x01\x23\x45\x67\x89", "\x01\x24\x44"},
		{"", "\x12", "\x13", "\x21"},
		{"\x12\x34"},
		{""},
		{"\xff\xff", "\xff\xfe", "\xf0", "\x0f", "\x00"},
	} {
		for _, value := range []string{"v", long} {
			r := newRig(t, 256)
			entries := map[string]string{}
			for _, k := range keys {
				entries[k] = value
			}
			root := r.plant(entries)
			ends := keysAround(keys)
			for a, low := range ends {
				r.scan("13.5", root, from(low), len(keys))
				for b, high := range ends {
					if (3*a+b)%7 != i && (testing.Short() || len(ends) > 30) { // of many all kinds, not all
						continue
					}
					bs := within(low, high)
					n := 0
					for _, k := range keys {
						if bs.has(k) {
							n++
						}
					}
					for _, limit := range []int{0, 1, n - 1, n, n + 1} {
						if limit < 0 {
							continue
						}
						got, more, e := r.scan("13.5", root, bs, limit)
						if len(got) != min(n, limit) || more != (n > limit) || e != api.OK {
							t.Fatalf("13.5: %v, limit %d: %d entries, %v, %d; the map has %d", bs, limit, len(got), more, e, n)
						}
					}
				}
			}
		}
	}
}

// All keys around the entries of these tries are sought, and from each one goes forth and back.
func TestAllSeeks(t *testing.T) {
	for _, keys := range [][]string{
		{"\x01", "\x01\x11", "\x01\x23\x45\x67", "\x01\x23\x45\x67\x21", "\x01\x23\x45\x67\x89", "\x01\x24\x44"},
		{"", "\x12", "\x13", "\x21"},
		{"\x12\x34"},
		{""},
		{"\xff\xff", "\xff\xfe", "\xf0", "\x0f", "\x00"},
	} {
		for _, value := range []string{"v", long} {
			r := newRig(t, 256)
			entries := map[string]string{}
			for _, k := range keys {
				entries[k] = value
			}
			sorted := slices.Sorted(slices.Values(keys))
			r.stand(r.plant(entries))
			for _, key := range keysAround(keys) {
				at, _ := slices.BinarySearch(sorted, key)
				was := r.here
				e := r.seek("13.2", key)
				if at == len(sorted) {
					if e != api.ErrEnd || r.here != was {
						t.Fatalf("13.2: Seek of %x, behind all: %d", key, e)
					}
					continue
				}
				if e != api.OK || r.here != (pair{sorted[at], value}) {
					t.Fatalf("13.2: Seek of %x: %d, at %x", key, e, r.here.key)
				}
				if e := r.next("13.2"); e == api.OK != (at+1 < len(sorted)) || e == api.OK && r.here.key != sorted[at+1] {
					t.Fatalf("13.2: Next behind %x: %d, at %x", sorted[at], e, r.here.key)
				}
				r.seek("13.2", key)
				if e := r.prev("13.2"); e == api.OK != (at > 0) || e == api.OK && r.here.key != sorted[at-1] {
					t.Fatalf("13.2: Prev ahead of %x: %d, at %x", sorted[at], e, r.here.key)
				}
			}
		}
	}
}
