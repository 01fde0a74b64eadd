package diff_test

import (
	"math/rand"
	"slices"
	"strings"
	"testing"

	"cairn/api"
	"cairn/diff"
)

// listOf makes the list that is handed in, with spare room of its own and of all that stands in it.
func listOf(ds []delta) []api.Delta {
	out := make([]api.Delta, len(ds), len(ds)+2)
	for i, d := range ds {
		out[i] = api.Delta{Key: roomy(d.key), Old: roomy(d.old), New: roomy(d.new), Was: d.was, Is: d.is}
	}
	spare := out[:cap(out)]
	for i := len(ds); i < len(spare); i++ {
		spare[i] = api.Delta{Key: []byte("spare"), Was: true}
	}
	return out
}

// all tells a list with all its spare room.
func all(ds []api.Delta) []delta {
	var out []delta
	for _, d := range ds[:cap(ds)] {
		out = append(out, delta{whole(d.Key), whole(d.Old), whole(d.New), d.Was, d.Is})
	}
	return out
}

// changes tells what 24.3 says of a list.
func changes(ds []delta) []api.Change {
	var out []api.Change
	for _, d := range ds {
		if d.is {
			out = append(out, change(d.key, d.new))
		} else {
			out = append(out, gone(d.key))
		}
	}
	return out
}

// lists holds Changes and Back of a list against 24.3.
func lists(t *testing.T, what string, ds []delta) {
	t.Helper()
	handed := listOf(ds)
	was := all(handed)
	got, back := diff.Changes(handed), diff.Back(handed)
	if !slices.Equal(all(handed), was) {
		t.Fatalf("R3: %s: what was handed in is changed", what)
	}
	for _, d := range handed {
		for _, b := range [][]byte{d.Key, d.Old, d.New} {
			fill(b, 0x66) // whoever keeps it loses it
		}
	}
	clear(handed[:cap(handed)])
	if !sameChanges(got, changes(ds)) {
		t.Fatalf("24.3: %s: Changes: %.300v", what, got)
	}
	if !slices.Equal(deltas(back), turned(ds)) {
		t.Fatalf("24.3: %s: Back: %.300v", what, deltas(back))
	}
	if twice := diff.Back(back); !slices.Equal(deltas(twice), ds) {
		t.Fatalf("24.3: %s: Back twice: %.300v", what, deltas(twice))
	}
}

func TestListsOfOne(t *testing.T) {
	for _, key := range []string{"", "k", strings.Repeat("k", 32), strings.Repeat("k", 33), strings.Repeat("k", 1000)} {
		for _, old := range []string{"", "o", long, strings.Repeat("o", 256), strings.Repeat("o", 3000)} {
			for _, now := range []string{"", "n", "o", long, strings.Repeat("n", 257)} {
				for i := range 4 {
					lists(t, "one", []delta{{key, old, now, i&1 == 1, i&2 == 2}})
				}
			}
		}
	}
}

// No Diff would answer these: they don't rise, have one key twice, or no difference.
func TestListsThatNoDiffAnswers(t *testing.T) {
	lists(t, "falling", []delta{{"b", "", "x", false, true}, {"a", "y", "", true, false}})
	lists(t, "one twice", []delta{{"a", "", "x", false, true}, {"a", "", "x", false, true}, {"a", "x", "", true, false}})
	lists(t, "no difference", []delta{{"a", "x", "x", true, true}, {"b", "", "", false, false}, {"c", "", "", true, true}})
	lists(t, "values that are not there", []delta{{"a", "x", "y", false, false}, {"b", "x", "y", true, false}, {"c", "x", "y", false, true}})
	var long []delta
	for i := range 10000 {
		long = append(long, delta{number(i), "v", "w", i%3 > 0, i%2 > 0})
	}
	lists(t, "more than are told", long)
}

func TestAnyLists(t *testing.T) {
	rnd := rand.New(rand.NewSource(241))
	some := func() string { return strings.Repeat(string([]byte{byte(rnd.Intn(256))}), rnd.Intn(3)*rnd.Intn(40)) }
	for range rounds(2000) {
		var ds []delta
		for range rnd.Intn(9) {
			ds = append(ds, delta{some(), some(), some(), rnd.Intn(2) == 0, rnd.Intn(2) == 0})
		}
		lists(t, "any", ds)
	}
}

// Lists of bytes that are nil, or empty, are one.
func TestNilAndEmptyListsAreOne(t *testing.T) {
	for _, none := range [][]byte{nil, {}, make([]byte, 0, 9)} {
		for i := range 4 {
			d := api.Delta{Key: none, Old: none, New: none, Was: i&1 == 1, Is: i&2 == 2}
			if got := diff.Changes([]api.Delta{d}); len(got) != 1 || len(got[0].Key) != 0 || len(got[0].Value) != 0 || got[0].Gone == d.Is {
				t.Errorf("R4: Changes: %+v", got)
			}
			if got := diff.Back([]api.Delta{d}); len(got) != 1 || len(got[0].Key)+len(got[0].Old)+len(got[0].New) != 0 || got[0].Was != d.Is || got[0].Is != d.Was {
				t.Errorf("R4: Back: %+v", got)
			}
		}
	}
}
