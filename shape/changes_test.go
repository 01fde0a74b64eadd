package shape_test

import (
	"fmt"
	"math/rand"
	"slices"
	"strings"
	"testing"

	"cairn/api"
)

// orders gives all orders of a list.
func orders(l []pair, take func([]pair)) {
	var swap func(from int)
	swap = func(from int) {
		if from == len(l) {
			take(slices.Clone(l))
			return
		}
		for i := from; i < len(l); i++ {
			l[from], l[i] = l[i], l[from]
			swap(from + 1)
			l[from], l[i] = l[i], l[from]
		}
	}
	swap(0)
}

func TestSortOfEveryOrder(t *testing.T) {
	l := pairs("", "e", "12", "a", "1200", "b", "13", "c", "80", "d", "12", "f", "", "g")
	orders(l, func(l []pair) {
		if got := sorted(t, l); !slices.Equal(got, inOrder(mapOf(l))) {
			t.Fatalf("14.2: Sort(%q) = %q", l, got)
		}
	})
}

// Of many entries of one key the last one is told, wherever they stand, and whatever it has.
func TestSortOfOneKey(t *testing.T) {
	for n := range 40 {
		var l, mixed []pair
		for i := range n {
			l = append(l, pair{"k", fmt.Sprint(i)})
			mixed = append(mixed, pair{"k", fmt.Sprint(i)}, pair{string([]byte{byte(i)}), "x"}, pair{"k" + string([]byte{byte(255 - i)}), fmt.Sprint(i)})
		}
		if got := sorted(t, l); !slices.Equal(got, inOrder(mapOf(l))) || n > 0 && got[0].value != fmt.Sprint(n-1) {
			t.Errorf("14.2: %d entries of one key: %q", n, got)
		}
		if got := sorted(t, mixed); !slices.Equal(got, inOrder(mapOf(mixed))) {
			t.Errorf("14.2: %d entries of one key among others: %q", n, got)
		}
	}
	if got := sorted(t, []pair{{"k", "v"}, {"k", ""}}); !slices.Equal(got, []pair{{"k", ""}}) {
		t.Errorf("14.2: an empty value behind another one: %q", got)
	}
}

// Sort takes any keys and values: what it tells need not be a map's.
func TestSortOfAnything(t *testing.T) {
	huge := strings.Repeat("k", 5000)
	l := []pair{{huge + "b", ""}, {huge, huge}, {huge + "a", huge + huge}, {"", ""}, {huge[:33], "x"}, {huge[:32], "x"}, {"\xff", ofSize(257)}, {huge, ""}}
	if got := sorted(t, l); !slices.Equal(got, inOrder(mapOf(l))) {
		t.Errorf("14.2: %.200q", got)
	}
	rnd := rand.New(rand.NewSource(141))
	for range rounds(400) {
		var l []pair
		for range rnd.Intn(60) {
			value := ""
			if rnd.Intn(5) > 0 {
				value = fmt.Sprint(rnd.Intn(1000))
			}
			l = append(l, pair{someKey(rnd, rnd.Intn(4)), value})
		}
		got := sorted(t, l)
		if !slices.Equal(got, inOrder(mapOf(l))) {
			t.Fatalf("14.2: Sort(%q) = %q", l, got)
		}
		if again := sorted(t, got); !slices.Equal(again, got) {
			t.Fatalf("14.2: sorted again: %q, not %q", again, got)
		}
	}
}

// wrongChanges are changes that may not be.
func wrongChanges() []api.Change {
	return []api.Change{
		put("k", ""), put("", ""), put("absent", ""), put("k", ofSize(257)), put("k", ofSize(70000)), put(ofSize(33), "v"), put(ofSize(70), "v"), gone(ofSize(33)),
		put(ofSize(33), ""), {Key: []byte("k"), Value: []byte("v"), Gone: true}, {Key: []byte("absent"), Value: []byte{0}, Gone: true},
		{Key: []byte("k"), Value: []byte(ofSize(257)), Gone: true}, {Value: []byte("v"), Gone: true}, {Key: []byte(ofSize(33)), Value: []byte("v"), Gone: true},
	}
}

// A change that may not be is seen wherever it stands, whatever is done to its key behind it, and nothing is done.
func TestWrongChanges(t *testing.T) {
	around := []api.Change{put("a", "b"), gone("k"), put("k", "w"), gone("l")}
	for _, entries := range [][]pair{nil, {{"k", "v"}}, {{"", "e"}, {"a", "b"}, {"k", long}}} {
		for _, wrong := range wrongChanges() {
			for i := range len(around) + 1 {
				changes := slices.Insert(slices.Clone(around), i, wrong)
				if got, e := applied(t, entries, changes); len(got) != 0 || e != api.ErrInput {
					t.Errorf("14.3: %s at %d: %q, %d", tell(wrong), i, got, e)
				}
			}
			if got, e := applied(t, entries, []api.Change{wrong}); len(got) != 0 || e != api.ErrInput {
				t.Errorf("14.3: %s: %q, %d", tell(wrong), got, e)
			}
			if got, e := applied(t, []pair{{"k", ""}}, []api.Change{wrong}); len(got) != 0 || e != api.ErrOrder {
				t.Errorf("14.3: %s of no map: %q, %d", tell(wrong), got, e)
			}
		}
	}
}

// Keys and values of all lengths that may be.
func TestChangesOfAnyLength(t *testing.T) {
	entries := mapOf(pairs("", "e", "12", "a", "5a", "b", "ff", "c"))
	for _, key := range []int{0, 1, 2, 31, 32} {
		for _, value := range []int{1, 2, 31, 32, 255, 256} {
			changes := []api.Change{put(ofSize(key), ofSize(value))}
			if got, e := applied(t, inOrder(entries), changes); !slices.Equal(got, inOrder(changed(entries, changes))) || e != api.OK {
				t.Errorf("14.3: a value of %d bytes at a key of %d: %q, %d", value, key, got, e)
			}
			changes = append(changes, gone(ofSize(key)))
			if got, e := applied(t, inOrder(entries), changes); !slices.Equal(got, inOrder(changed(entries, changes))) || e != api.OK {
				t.Errorf("14.3: a key of %d bytes that is gone: %q, %d", key, got, e)
			}
		}
	}
}

// Several changes of one key come one behind the other.
func TestChangesOfOneKey(t *testing.T) {
	one := []api.Change{put("k", "1"), put("k", "2"), gone("k"), put("j", "3"), gone("j")}
	for _, entries := range []map[string]string{{}, {"k": "0"}, {"j": "0", "k": "1", "l": "2"}} {
		for _, a := range one {
			for _, b := range one {
				for _, c := range one {
					for _, changes := range [][]api.Change{{a}, {a, b}, {a, b, c}, {a, b, c, a}} {
						want := inOrder(changed(entries, changes))
						if got, e := applied(t, inOrder(entries), changes); !slices.Equal(got, want) || e != api.OK {
							t.Fatalf("14.3: Apply(%q, %s) = %q, %d", entries, tell(changes...), got, e)
						}
					}
				}
			}
		}
	}
}

// A key that goes, at the beginning, in the midst and at the end; one that is not there; all of them.
func TestKeysThatGo(t *testing.T) {
	entries := mapOf(pairs("", "e", "12", "a", "1200", "b", "ff", "c"))
	var all []api.Change
	for key := range entries {
		all = append(all, gone(key))
		if got, e := applied(t, inOrder(entries), []api.Change{gone(key)}); !slices.Equal(got, inOrder(changed(entries, []api.Change{gone(key)}))) || e != api.OK {
			t.Errorf("14.3: without %x: %q, %d", key, got, e)
		}
	}
	for _, key := range []string{"\x00", "\x12\x01", "\x12\x00\x00", "\xff\x00", ofSize(32)} {
		if got, e := applied(t, inOrder(entries), []api.Change{gone(key)}); !slices.Equal(got, inOrder(entries)) || e != api.OK {
			t.Errorf("14.3: %x was not there: %q, %d", key, got, e)
		}
	}
	if got, e := applied(t, inOrder(entries), all); len(got) != 0 || e != api.OK {
		t.Errorf("14.3: all are gone: %q, %d", got, e)
	}
}

// Any changes of any map, more than a batch has too, all at once and one by one.
func TestAnyChanges(t *testing.T) {
	rnd := rand.New(rand.NewSource(142))
	for range rounds(300) {
		entries := someMap(rnd)
		var changes []api.Change
		for range rnd.Intn(80) {
			if key := near(rnd, entries); rnd.Intn(2) == 0 {
				changes = append(changes, gone(key))
			} else {
				changes = append(changes, put(key, someValue(rnd)))
			}
		}
		want := inOrder(changed(entries, changes))
		if got, e := applied(t, inOrder(entries), changes); !slices.Equal(got, want) || e != api.OK {
			t.Fatalf("14.3: Apply(%q, %s) = %q, %d", entries, tell(changes...), got, e)
		}
		step := inOrder(entries)
		for _, c := range changes {
			var e api.Errno
			if step, e = applied(t, step, []api.Change{c}); e != api.OK {
				t.Fatalf("14.3: %d", e)
			}
		}
		if !slices.Equal(step, want) {
			t.Fatalf("14.3: one by one: %q, not %q", step, want)
		}
	}
}
