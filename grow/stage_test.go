package grow_test

import (
	"fmt"
	"maps"
	"slices"
	"strings"
	"testing"

	"cairn/api"
	"cairn/find"
)

// search tells a value, other than those named, that is long or short and does what is asked.
func search(t *testing.T, long bool, does func(value string) bool, but ...string) string {
	t.Helper()
	for i := range 100000 {
		value := fmt.Sprint(i)
		if long {
			value = strings.Repeat("-", 40) + value
		}
		if !slices.Contains(but, value) && does(value) {
			return value
		}
	}
	t.Fatal("no such value")
	return ""
}

func TestClashWithAStagedNode(t *testing.T) {
	for _, bits := range []int{8, 9, 12} {
		r := newRig(t, bits)
		one := r.done("12.5", r.empty(), 0, 1, put("\x12", "a"))
		value := search(t, false, func(v string) bool { return hashOf(bits, leaf("12", v)) == one }, "a")
		r.refused("12.5: another string with its hash", r.empty(), api.ErrClash, 0, put("\x12", value))
		if r.book.Sound() {
			t.Errorf("R7: a clash of which the book knows nothing")
		}
		r.done("12.5: the string itself stays", r.empty(), 0, 0, put("\x12", "a"))
		r.refused("12.5: on its own root", one, api.ErrClash, 0, put("\x12", value))
		r.refused("12.6", r.empty(), api.ErrClash, 0, put("\x12", value), gone("\x12"))
		r.holds("12.9", one, map[string]string{"\x12": "a"}, "", "\x13")
	}
}

// Two nodes of one call: what is left of a leaf, and the new one.
func TestClashWithinACall(t *testing.T) {
	r := newRig(t, 8)
	old := search(t, true, func(v string) bool { return hashOf(8, leaf("00", v)) != r.empty() })
	value := search(t, true, func(v string) bool { return hashOf(8, leaf("00", v)) == hashOf(8, leaf("00", old)) }, old)
	root := r.lay(leaf("1200", old))
	if root == r.empty() {
		t.Fatal("the root is by chance the empty one's")
	}
	r.refused("12.5: two nodes of one call", root, api.ErrClash, 1, put("\x13\x00", value))
	if r.stage.Len() != 0 || r.book.Sound() {
		t.Errorf("12.5: %d are staged, and the book is sound: %v", r.stage.Len(), r.book.Sound())
	}
}

// Two changes of one call: nothing of the first stays.
func TestClashWithinABatch(t *testing.T) {
	r := newRig(t, 8)
	one := hashOf(8, leaf("12", "a"))
	value := search(t, false, func(v string) bool { return hashOf(8, leaf("12", v)) == one }, "a")
	r.refused("12.6", r.empty(), api.ErrClash, 0, put("\x12", "a"), gone("\x12"), put("\x12", value))
	if r.stage.Len() != 0 {
		t.Errorf("12.6: %d are staged", r.stage.Len())
	}
	r.done("12.6: the one alone", r.empty(), 0, 1, put("\x12", value))
	r.refused("12.6: now the other may not be", r.empty(), api.ErrClash, 0, put("\x12", "a"))
}

func TestClashWithTheEmptyRoot(t *testing.T) {
	for _, bits := range []int{8, 10} {
		r := newRig(t, bits)
		value := search(t, false, func(v string) bool { return hashOf(bits, leaf("12", v)) == r.empty() })
		r.refused("12.5: the root would be the empty one's", r.empty(), api.ErrClash, 0, put("\x12", value))
		r.refused("12.6", r.empty(), api.ErrClash, 0, put("\x12", value), gone("\x12"))
		if r.book.Sound() {
			t.Errorf("R7: a clash of which the book knows nothing")
		}
		r = newRig(t, bits)
		inner := search(t, true, func(v string) bool { return hashOf(bits, leaf("2", v)) == r.empty() })
		fits := search(t, false, func(v string) bool { return hashOf(bits, leaf("34", v)) != r.empty() })
		root := r.lay(leaf("34", fits))
		r.refused("12.5: a node within would be the empty one's", root, api.ErrClash, 1, put("\x12", inner))
		if r.stage.Len() != 0 {
			t.Errorf("12.5: %d are staged", r.stage.Len())
		}
		tiny := search(t, false, func(v string) bool {
			return hashOf(bits, leaf("2", v)) == r.empty() && hashOf(bits, branch("", kid{1, leaf("2", v)}, kid{3, leaf("4", fits)})) != r.empty()
		})
		r.done("12.5: a whole node has no hash", root, 1, 1, put("\x12", tiny))
	}
}

// What the source has under a hash is no clash: the stage stands ahead of it.
func TestHashOfANodeOfTheSource(t *testing.T) {
	r := newRig(t, 8)
	old := search(t, false, func(v string) bool { return hashOf(8, leaf("12", v)) != r.empty() })
	root := r.lay(leaf("12", old))
	value := search(t, false, func(v string) bool { return hashOf(8, leaf("12", v)) == root }, old)
	if got := r.done("12.5: the same root, another node", root, 1, 1, put("\x12", value)); got != root {
		t.Errorf("12.3: %x", got)
	}
	if v, found, e := find.Get(r.stage, r.book, root, []byte("\x12")); string(v) != value || !found || e != api.OK {
		t.Errorf("12.2: %q, %v, %d", v, found, e)
	}
	r.done("12.5: the value that is there", root, 0, 0, put("\x12", value))
	r.refused("12.5: the old node now has the hash of a staged one", root, api.ErrClash, 0, put("\x12", old))
}

// Nodes on the way are staged even if their bytes are those of the old ones: the leaf's hash alone stays.
func TestNodesWithTheirOldBytes(t *testing.T) {
	r := newRig(t, 8)
	old := search(t, true, func(v string) bool { return hashOf(8, leaf("2", v)) != r.empty() })
	value := search(t, true, func(v string) bool { return hashOf(8, leaf("2", v)) == hashOf(8, leaf("2", old)) }, old)
	beside := search(t, false, func(v string) bool {
		h := hashOf(8, branch("", kid{1, r.standing(leaf("2", old))}, kid{3, leaf("4", v)}))
		return h != r.empty() && h != hashOf(8, leaf("2", old))
	})
	root := r.lay(branch("", kid{1, r.byHash(leaf("2", old))}, kid{3, leaf("4", beside)}))
	if got := r.done("12.5", root, 2, 2, put("\x12", value)); got != root {
		t.Errorf("12.3: %x", got)
	}
	r.anew()
	r.done("12.5: nothing, where the value is there already", root, 2, 0, put("\x12", old))
}

// With every error, wherever it comes, the stage is as it was: what stood there stays, what came goes.
func TestStageIsAsItWas(t *testing.T) {
	r := newRig(t, 256)
	root, key, encodings := chain(r)
	r.done("12.5", root, 6, 6, put(key, long+"!"))
	r.done("12.5", root, 3, 4, put("\x01\x29", long))
	staged := r.stage.Len()
	missing := hashOf(256, encodings[6])
	delete(r.src.blobs, missing)
	r.refused("12.6", root, api.ErrAbsent, 6+1, put(key, long+"!"), put(key+"\x01", long+"?"), put("\x99", long), gone(key+"\x01"), gone(key))
	if r.stage.Len() != staged {
		t.Errorf("12.6: %d are staged, not %d", r.stage.Len(), staged)
	}
	r.lay(encodings[6])
	r.done("12.6: now it goes", root, 6+1, 18, put(key, long+"!"), put(key+"\x01", long+"?"), put("\x99", long), gone(key+"\x01"), gone(key))
}

func wrongChanges() []api.Change {
	return []api.Change{
		{Key: make([]byte, 33), Value: []byte("v")},
		{Key: make([]byte, 33), Gone: true},
		{Key: make([]byte, 1000), Value: []byte("v")},
		{Key: []byte("k")},
		{Key: []byte("k"), Value: []byte{}},
		{},
		{Key: []byte("k"), Value: make([]byte, 257)},
		{Key: []byte("k"), Value: make([]byte, 99999)},
		{Key: []byte("k"), Value: []byte("x"), Gone: true},
		{Key: []byte("k"), Value: make([]byte, 257), Gone: true},
		{Key: make([]byte, 33), Value: make([]byte, 257), Gone: true},
	}
}

func TestChangesThatMayNotBe(t *testing.T) {
	r := newRig(t, 256)
	root := r.plant(map[string]string{"\x12": long, "k": long})
	right := []api.Change{put("a", "b"), gone("k"), put("", long), gone("zz"), put("\x12\x34", "w")}
	for _, wrong := range wrongChanges() {
		for at := range len(right) + 1 {
			changes := slices.Insert(slices.Clone(right), at, wrong)
			r.refused(fmt.Sprintf("12.6: at place %d", at), root, api.ErrInput, 0, changes...)
			r.refused("12.6: ahead of any reading", api.Hash{9}, api.ErrInput, 0, changes...)
			r.refused("12.6: of the empty trie", r.empty(), api.ErrInput, 0, changes...)
		}
		r.refused("12.6: alone", root, api.ErrInput, 0, wrong)
	}
	if r.stage.Len() != 0 {
		t.Errorf("12.6: %d are staged", r.stage.Len())
	}
	if _, e := r.do("12.6", root, right...); e != api.OK {
		t.Errorf("12.6: %d", e)
	}
}

func TestApplyIsOneBehindTheOther(t *testing.T) {
	r := newRig(t, 256)
	entries := map[string]string{"\x12": long, "k": long}
	root := r.plant(entries)
	var changes []api.Change
	for i := range 100 { // no limit is named for this layer
		key := string([]byte{byte(i * 37), byte(i)}[:i%3])
		if i%4 == 3 {
			changes = append(changes, gone(key))
		} else {
			changes = append(changes, put(key, strings.Repeat("v", 1+i)))
		}
	}
	got, e := r.do("12.6", root, changes...)
	if want, _ := r.trie(changed(entries, changes...)); e != api.OK || got != want {
		t.Errorf("12.6: %x, %d", got, e)
	}
	staged := r.model.staged
	r.anew()
	for _, c := range changes {
		if root, e = r.do("12.6", root, c); e != api.OK {
			t.Fatalf("12.6: %d", e)
		}
	}
	if root != got || r.stage.Len() != len(staged) {
		t.Errorf("12.6: one by one: %x, %d staged, not %d", root, r.stage.Len(), len(staged))
	}
	for h, b := range staged {
		if r.model.staged[h] != b {
			t.Errorf("12.6: one by one: another node under %.3x", h)
		}
	}
	if r.done("12.6: no change", got, 0, 0) != got {
		t.Errorf("12.6: no change: another root")
	}
}

// What goes wrong first is the answer.
func TestOrderOfErrorsInABatch(t *testing.T) {
	r := newRig(t, 8)
	one := hashOf(8, leaf("12", "a"))
	value := search(t, false, func(v string) bool { return hashOf(8, leaf("12", v)) == one }, "a")
	clash := []api.Change{put("\x12", "a"), gone("\x12"), put("\x12", value)}
	r.refused("12.6", r.empty(), api.ErrClash, 0, clash...)
	r.refused("12.6: what may not be is looked for first", r.empty(), api.ErrInput, 0, append(clash, put("", ""))...)
	missing := api.Hash{0x55}
	if missing == r.empty() || missing == one {
		t.Fatal("another hash is needed")
	}
	r.src.errs[missing] = api.ErrDown
	r.refused("12.6", missing, api.ErrDown, 1, clash...)
	r.refused("12.6", missing, api.ErrInput, 0, append(clash, put("", ""))...)
}

func TestReach(t *testing.T) {
	r := newRig(t, 256)
	two := long + "!"
	changes := []api.Change{put("\x11", long), put("\x12", two), put("\x21", long), put("\x22", two), put("\x35", "whole")}
	root, _ := r.do("12.7", r.empty(), changes...)
	below := branch("", kid{1, r.standing(leaf("", long))}, kid{2, r.standing(leaf("", two))})
	top := branch("", kid{1, r.standing(below)}, kid{2, r.standing(below)}, kid{3, leaf("5", "whole")})
	want := []string{top, below, leaf("", long), leaf("", two)}
	l := r.reach("12.7: two ways to one node", root)
	if len(l) != len(want) || r.stage.Len() <= len(l) {
		t.Fatalf("12.7: %d nodes of %d", len(l), r.stage.Len())
	}
	for i, b := range l {
		if string(b.Data) != want[i] || b.Key != hashOf(256, want[i]) {
			t.Errorf("12.7: node %d is %x", i, b.Data)
		}
	}
	for _, h := range []api.Hash{r.empty(), {}, {9}, r.lay(leaf("99", long))} {
		if l := r.reach("12.7: a root that is not staged", h); len(l) != 0 {
			t.Errorf("12.7: %x", l)
		}
	}
	if l := r.reach("12.7: a node within", hashOf(256, below)); len(l) != 3 {
		t.Errorf("12.7: %x", l)
	}
}

// Each node with all that it leads to ahead of the next.
func TestOrderOfReach(t *testing.T) {
	r := newRig(t, 256)
	entries := map[string]string{"": long}
	var changes []api.Change
	for i := range 60 {
		key := string([]byte{byte(i % 4 * 0x50), byte(i % 3 * 0x31), byte(i * 7)}[:1+i%3])
		entries[key] = long + fmt.Sprint(i)
	}
	for _, key := range slices.Sorted(maps.Keys(entries)) {
		changes = append(changes, put(key, entries[key]))
	}
	root, _ := r.do("12.7", r.empty(), changes...)
	_, nodes := r.trie(entries)
	var places []string // by their order the nodes of a trie stand in the order of the walk
	for place, encoding := range nodes {
		if place == "" || len(encoding) >= 32 {
			places = append(places, place)
		}
	}
	slices.Sort(places)
	l := r.reach("12.7", root)
	if len(l) != len(places) {
		t.Fatalf("12.7: %d nodes, not %d", len(l), len(places))
	}
	for i, place := range places {
		if string(l[i].Data) != nodes[place] {
			t.Errorf("12.7: at %d stands another node than that of %s", i, place)
		}
	}
}

// What is not staged ends the walk, though staged nodes stand below it.
func TestReachThroughStagedNodesAlone(t *testing.T) {
	r := newRig(t, 256)
	low := leaf("99", long)
	middle := branch("", kid{1, r.byHash(low)}, kid{2, leaf("11", "w")})
	root := r.lay(branch("", kid{4, r.byHash(middle)}, kid{5, leaf("1", "v")}))
	other := r.done("12.7", r.empty(), 0, 4, put("\x71\x99", long), put("\x72\x99", "w"))
	if l := r.reach("12.7", other); len(l) != 3 || string(l[2].Data) != low {
		t.Fatalf("12.7: %x", l)
	}
	for _, h := range []api.Hash{root, hashOf(256, middle)} {
		if l := r.reach("12.7: not staged itself", h); len(l) != 0 {
			t.Errorf("12.7: %x", l)
		}
	}
	next := r.done("12.7", root, 1, 1, put("\x51", "x"))
	if l := r.reach("12.7: through one that is not staged", next); len(l) != 1 || l[0].Key != next {
		t.Errorf("12.7: %x", l)
	}
	last := r.done("12.7", next, 1, 2, put("\x42\x11", "x"))
	if l := r.reach("12.7: through one that is", last); len(l) != 3 || l[0].Key != last || string(l[2].Data) != low {
		t.Errorf("12.7: %x", l)
	}
}

// With few bits a node may lead to itself.
func TestReachOfARing(t *testing.T) {
	r := newRig(t, 8)
	h := api.Hash{0x77}
	kids := []kid{{4, item(string(h[:]))}, {5, leaf("1", "v")}}
	root := r.lay(branch("", kids...))
	value := search(t, false, func(v string) bool { return hashOf(8, branch("", append(kids, kid{6, leaf("1", v)})...)) == h })
	if root == h || root == r.empty() || h == r.empty() {
		t.Fatal("another hash is needed")
	}
	ring := r.done("12.7", root, 1, 1, put("\x61", value))
	if l := r.reach("12.7: a ring", ring); ring != h || len(l) != 1 {
		t.Errorf("12.7: %x: %x", ring, l)
	}
	for size := range 33 {
		key := strings.Repeat("\x44", size)
		r.done("12.4: every walk ends", ring, 0, 0, gone(key))
		if size < 32 {
			r.done("12.4: every walk ends", ring, 0, 0, gone(key+"\x99"))
		}
		r.do("12.3: what comes out of it", ring, put(key, "v"))
	}
}

func TestLen(t *testing.T) {
	r := newRig(t, 256)
	root := r.empty()
	for i := range 40 {
		root = r.done("12.7: one string more", root, 0, 1, put("", strings.Repeat("v", 1+i)))
	}
	for i := range 40 {
		root = r.done("12.7: strings that are staged", root, 0, 0, put("", strings.Repeat("v", 40-i)))
	}
	r.done("12.7: nothing is taken off", root, 0, 0, gone(""))
	if r.stage.Len() != 40 {
		t.Errorf("12.7: %d are staged", r.stage.Len())
	}
}
