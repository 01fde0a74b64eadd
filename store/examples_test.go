package store_test

import (
	"slices"
	"strings"
	"testing"

	"cairn/api"
	"cairn/media"
)

// The chapter's examples: a device of 64 slots and room 40000, honest; a book of 256 and 256 bits; a cache of 8.

// only is the root of the map of one short entry.
func only(key, value string) api.Hash {
	digits := strings.ToLower(hex(key))
	return hashOf(256, leaf(digits, value))
}

func hex(s string) string {
	const digits = "0123456789abcdef"
	var out []byte
	for i := range len(s) {
		out = append(out, digits[s[i]>>4], digits[s[i]&15])
	}
	return string(out)
}

// example1 does the first example, and tells the root of the map of a alone.
func example1(t *testing.T, cache int) (*rig, api.Hash) {
	t.Helper()
	r := lay(t, 64, 40000, 256, 256)
	r.wantsOpen("example 1", cache, api.OK, "reg read append setreg")
	r.is("example 1", 0, state{count: 1}, emptyRoot(256), false)
	r.wants("example 1", 0, get("a"), got{}, "reg")
	r.wants("example 1", 0, lays("a", "1"), done{}, "")
	r.wants("example 1", 0, get("a"), got{}, "reg")
	r.wants("example 1", 0, commit(), only("a", "1"), "reg get- put append setreg")
	return r, only("a", "1")
}

func TestExamples1And2(t *testing.T) {
	r, top := example1(t, 8)
	r.wants("example 1", 0, get("a"), got{"1", true}, "reg")
	r.is("example 1", 0, state{count: 2, seq: 1, cached: 1}, top, false)
	r.refuses("example 1", 0, lays("a", ""), api.ErrInput, "")
	r.wants("example 1", 0, deletes("b"), done{}, "")
	r.wants("example 1", 0, commit(), top, "reg append setreg")
	r.is("example 1", 0, state{count: 3, seq: 2, cached: 1}, top, false)

	r.wantsOpen("example 2", 8, api.OK, "reg read append setreg")
	r.is("example 2", 1, state{count: 4, seq: 2}, top, false)
	r.wants("example 2", 1, get("a"), got{"1", true}, "reg get")
	r.refuses("example 2", 0, get("a"), api.ErrStale, "reg")
	r.refuses("example 2", 0, get("a"), api.ErrFailed, "")
	r.refuses("example 2", 0, lays("a", "2"), api.ErrFailed, "")
	if !r.stores[0].Report().Failed {
		t.Error("example 2: it has not failed")
	}
}

func TestExamples3And4(t *testing.T) {
	for at, there := range map[int]bool{4: true, 3: false} {
		r := lay(t, 64, 40000, 256, 256)
		r.opens(8)
		r.does(0, lays("a", "1"))
		r.choose(honest(at, choice(api.Crash, 0))...)
		accesses := "reg get- put append setreg-"
		want := state{count: 3, seq: 1}
		top := only("a", "1")
		if !there {
			accesses = "reg get- put append-"
			want = state{count: 2}
			top = emptyRoot(256)
		}
		r.refuses("examples 3 and 4", 0, commit(), api.ErrDown, accesses)
		r.refuses("examples 3 and 4", 0, commit(), api.ErrFailed, "")
		who := r.up().opens(8)
		r.is("examples 3 and 4", who, want, top, false)
		if a, e := r.do(who, get("a")); e != api.OK || a.(got).found != there {
			t.Errorf("examples 3 and 4: %s, %d", brief(a), e)
		}
	}
}

func TestExample5(t *testing.T) {
	r, top := example1(t, 0)
	r.choose(honest(1, choice(api.Alter, 0))...)
	r.refuses("example 5", 0, get("a"), api.ErrNode, "reg get")
	if q := r.stores[0].Report().Quarantine; !slices.Equal(q, []api.Hash{top}) {
		t.Errorf("example 5: %x", q)
	}
	r.wants("example 5", 0, get("a"), got{"1", true}, "reg get")
	r.is("example 5", 0, state{count: 2, seq: 1}, top, false)
}

func TestExample6(t *testing.T) {
	r := lay(t, 1, 40000, 256, 256)
	r.opens(8)
	r.does(0, lays("a", "1"), commit(), lays("a", "2"))
	r.refuses("example 6", 0, commit(), api.ErrFull, "reg get- put- list get- put-")
	r.wants("example 6", 0, get("a"), got{"1", true}, "reg")
	r = lay(t, 2, 40000, 256, 256)
	r.opens(8)
	for i, value := range []string{"1", "2", "3", "4", "5", "1"} {
		r.does(0, lays("a", value))
		accesses := "reg get- put- list delete get- put append setreg"
		if i < 2 {
			accesses = "reg get- put append setreg"
		}
		r.wants("example 6", 0, commit(), only("a", value), accesses)
		r.wants("example 6", 0, get("a"), got{value, true}, "reg")
	}
}

func TestExample7(t *testing.T) {
	r, _ := example1(t, 8)
	r.choose(honest(1, choice(api.Rollback, 1))...)
	r.wantsOpen("example 7", 8, api.ErrStale, "reg read")
	r.wantsOpen("example 7: it stays so", 8, api.ErrStale, "reg read")
}

// The document's examples of the whole, as far as this layer shows them: a device of 64 slots and room 60000, a cache of 4.

func TestExamplesOfTheWhole(t *testing.T) {
	begin := func() *rig {
		r := lay(t, 64, 60000, 256, 256)
		r.opens(4)
		return r
	}
	r := begin() // 2
	r.does(0, lays("a", "1"), lays("b", "2"), commit(), deletes("b"))
	r.wants("example 2 of the whole", 0, commit(), only("a", "1"), "reg get- put append setreg")
	r.wants("example 2 of the whole", 0, scan(all, 9), scanned{"61=31", false}, "reg")

	r = begin() // 3
	r.does(0, lays("a", "1"), commit())
	who := r.opens(4)
	r.is("example 3 of the whole", who, state{count: 3, seq: 1}, only("a", "1"), false)
	r.does(who, lays("a", "2"), commit())
	r.wants("example 3 of the whole", who, get("a"), got{"2", true}, "reg")
	who = r.opens(0)
	r.is("example 3 of the whole", who, state{count: 5, seq: 2}, only("a", "2"), false)
	r.wants("example 3 of the whole", who, get("a"), got{"2", true}, "reg get")

	r = begin() // 6
	r.does(0, lays("a", "1"), commit())
	r.choose(honest(1, api.Choice{Kind: api.Alter, N: 5, M: 9})...)
	r.wantsOpen("example 6 of the whole", 4, api.ErrStale, "reg read")
	who = r.wantsOpen("example 6 of the whole", 4, api.OK, "reg read append setreg")
	r.is("example 6 of the whole", who, state{count: 3, seq: 1}, only("a", "1"), false)

	r = lay(t, 64, 60000, 256, 256) // 7
	r.opens(0)
	r.does(0, lays("a", "1"), commit())
	r.choose(honest(1, choice(api.Drop, 0))...)
	r.refuses("example 7 of the whole", 0, get("a"), api.ErrNode, "reg get-")
	r.is("example 7 of the whole", 0, state{count: 2, seq: 1, quarantine: 1}, only("a", "1"), false)
	r.wants("example 7 of the whole", 0, scrubs(9), api.Pass{Seen: 1, Done: true}, "reg get")
	r.wants("example 7 of the whole", 0, get("a"), got{"1", true}, "reg get")

	r = begin() // 9
	r.does(0, lays("a", "1"), commit())
	r.wants("example 9 of the whole", 0, prove("a"), unhex("c685c482206131"), "reg")
	r.wants("example 9 of the whole", 0, prove("b"), unhex("c685c482206131"), "reg")

	moved := r.d.Media() // 10
	r.load(moved)
	who = r.opens(4)
	r.is("example 10 of the whole", who, state{count: 3, seq: 1}, only("a", "1"), false)
	r.wants("example 10 of the whole", who, get("a"), got{"1", true}, "reg get")
	if _, e := media.Load(r.d.Media()); e != api.OK || !r.book.Sound() {
		t.Errorf("example 10 of the whole: %d", e)
	}
}
