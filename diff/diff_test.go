package diff_test

import (
	"fmt"
	"maps"
	"slices"
	"strings"
	"testing"

	"cairn/api"
	"cairn/diff"
	"cairn/digest"
)

func TestHandles(t *testing.T) {
	r := newRig(t, 256)
	one, two := r.plant(map[string]string{"k": "v"}), r.plant(map[string]string{"k": long})
	for _, roots := range [][2]api.Hash{{one, two}, {one, one}, {r.empty(), r.empty()}, {{}, {}}, {r.empty(), {9}}} {
		for _, c := range []struct {
			what string
			src  api.Source
			book *digest.Book
		}{{"a nil source", nil, r.book}, {"a nil book", r.src, nil}, {"both nil", nil, nil}} {
			if ds, e := diff.Diff(c.src, c.book, roots[0], roots[1]); len(ds) != 0 || e != api.ErrHandle {
				t.Errorf("24.1: %s: %v, %d", c.what, deltas(ds), e)
			}
		}
	}
	if len(r.src.asked) != 0 {
		t.Errorf("24.1: beside a nil book %d nodes are read", len(r.src.asked))
	}
}

// Whatever stands on one side alone is told, and all of it is read; the other side's root is the empty trie's.
func TestOneEmptyTrie(t *testing.T) {
	for _, m := range []map[string]string{
		{"": "v"}, {"": long}, {"k": "v"}, {"k": long}, {"k": "v", "l": long}, {"": "e", "k": "v", "ka": long, "kb": long + "2"},
		{keyOf(deep[:64]): "v"}, {keyOf(deep[:64]): long, keyOf(deep[:63] + "7"): "w", keyOf(deep[:62]): "x"},
	} {
		for _, bits := range []int{64, 256} {
			r := newRig(t, bits)
			ds := r.maps("24.1: an empty trie beside one", nil, m)
			if len(ds) != len(m) {
				t.Errorf("24.1: %d differences of %d entries", len(ds), len(m))
			}
			r.maps("24.1: a trie beside an empty one", m, nil)
		}
	}
}

// with tells a map with some entries changed; an empty value takes one off.
func with(m map[string]string, entries ...string) map[string]string {
	out := maps.Clone(m)
	for i := 0; i < len(entries); i += 2 {
		if out[entries[i]] = entries[i+1]; entries[i+1] == "" {
			delete(out, entries[i])
		}
	}
	return out
}

func grove() map[string]string {
	return map[string]string{"": "e", "\x12": "a", "\x12\x34": long, "\x12\x35": "b", "\x12\x35\x67": long + "!", "\x77": "seven", "\x78": "eight", "\x79\x99": "n", keyOf(deep[:64]): long, keyOf(deep[:62]): "up"}
}

func TestOneKey(t *testing.T) {
	for key, value := range grove() {
		for _, other := range []string{"", "v", long + "?"} {
			r := newRig(t, 256)
			ds := r.maps("24.1: one key", grove(), with(grove(), key, other))
			if want := (delta{key, value, other, true, other != ""}); !slices.Equal(ds, []delta{want}) {
				t.Errorf("24.1: %v, not %v", ds, want)
			}
		}
	}
	for _, key := range []string{"\x00", "\x11", "\x12\x34\x00", "\x12\x33", "\x12\x35\x67\x00", "\x7a", "\x79", "\x79\x99\x00", keyOf(deep[:60]), keyOf(deep[:63] + "7"), strings.Repeat("\xff", 32)} {
		for _, value := range []string{"v", long} {
			r := newRig(t, 256)
			if ds := r.maps("24.1: one key more", grove(), with(grove(), key, value)); !slices.Equal(ds, []delta{{key, "", value, false, true}}) {
				t.Errorf("24.1: %v", ds)
			}
		}
	}
}

func TestAllKeysAndNone(t *testing.T) {
	r := newRig(t, 256)
	if ds := r.maps("24.1: none", grove(), grove()); len(ds) != 0 || len(r.src.asked) != 0 {
		t.Errorf("24.5: %v, with %d read", ds, len(r.src.asked))
	}
	others, values := map[string]string{}, map[string]string{}
	for k, v := range grove() {
		values[k] = v + "?"
		if len(k) < 32 {
			others[k+"\x40"] = v
		}
	}
	r.maps("24.1: all values", grove(), values)
	r.maps("24.1: all keys", grove(), others)
	r.maps("24.1: the same with the other tries' nodes beside them", others, values)
}

// Keys that are the beginning of others, each of them there or not on each side.
func TestBeginnings(t *testing.T) {
	t.Parallel()
	for _, keys := range [][]string{{"", "\x12", "\x12\x34"}, {"", "\x00", "\x00\x00"}, {"\x12", "\x12\x30", "\x12\x31"}, {keyOf(deep[:60]), keyOf(deep[:62]), keyOf(deep[:64])}, {"", keyOf(deep[:62]), keyOf(deep[:64])}} {
		for _, value := range []string{"v", long} {
			for in := range 64 {
				old, now := map[string]string{}, map[string]string{}
				for i, key := range keys {
					if in>>i&1 == 1 {
						old[key] = value
					}
					if in>>(3+i)&1 == 1 {
						now[key] = value
					}
				}
				r := newRig(t, 256)
				r.maps(fmt.Sprintf("24.1: beginnings %x, %06b", keys, in), old, now)
			}
		}
	}
}

func TestValuesOfEveryLength(t *testing.T) {
	t.Parallel()
	for n := 1; n <= api.MaxValue; n++ {
		if testing.Short() && n > 60 && n < 250 {
			continue
		}
		v, w := strings.Repeat("v", n), strings.Repeat("v", n-1)+"w"
		for _, key := range []string{"", "\x12", "\x12\x34", keyOf(deep[:64])} {
			rest := with(map[string]string{"\x12\x35": "beside", keyOf(deep[:62]): "beside"}, key, "")
			r := newRig(t, 256)
			what := fmt.Sprintf("24.1: a value of %d bytes at %x", n, key)
			r.maps(what+" comes", rest, with(rest, key, v))
			r.maps(what+" is another", with(rest, key, v), with(rest, key, w))
			r.maps(what+" is shorter", with(rest, key, v), with(rest, key, v[:n/2+1]))
			r.maps(what+" alone", nil, map[string]string{key: v})
		}
	}
}
