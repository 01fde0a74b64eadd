package diff_test

import (
	"slices"
	"testing"

	"cairn/api"
	"cairn/diff"
)

func change(key, value string) api.Change {
	return api.Change{Key: []byte(key), Value: []byte(value)}
}
func gone(key string) api.Change { return api.Change{Key: []byte(key), Gone: true} }

func sameChanges(a, b []api.Change) bool {
	return slices.EqualFunc(a, b, func(x, y api.Change) bool {
		return string(x.Key) == string(y.Key) && string(x.Value) == string(y.Value) && x.Gone == y.Gone
	})
}

func TestExample1(t *testing.T) {
	r := newRig(t, 256)
	old, now := r.plant(map[string]string{"k": "v"}), r.plant(map[string]string{"k": "v", "l": "w"})
	r.tells("example 1", old, now, 2, delta{key: "l", new: "w", is: true})
	ds, _ := diff.Diff(r.src, r.book, old, now)
	if got := deltas(diff.Back(ds)); !slices.Equal(got, []delta{{key: "l", old: "w", was: true}}) {
		t.Errorf("24.3: example 1: Back: %v", got)
	}
	if got := diff.Changes(ds); !sameChanges(got, []api.Change{change("l", "w")}) {
		t.Errorf("24.3: example 1: Changes: %+v", got)
	}
	if got := diff.Changes(diff.Back(ds)); !sameChanges(got, []api.Change{gone("l")}) {
		t.Errorf("24.3: example 1: Changes of Back: %+v", got)
	}
}

func TestExample2(t *testing.T) {
	r := newRig(t, 256)
	old, now := r.plant(map[string]string{"": "a", "ab": "b"}), r.plant(map[string]string{"": "c", "ac": "b"})
	r.tells("example 2", old, now, 2, delta{"", "a", "c", true, true}, delta{"ab", "b", "", true, false}, delta{"ac", "", "b", false, true})
}

func TestExample3(t *testing.T) {
	for _, bits := range []int{8, 9, 255, 256} {
		r := newRig(t, bits)
		r.tells("example 3: both empty", r.empty(), r.empty(), 0)
	}
	r := newRig(t, 256)
	now := r.plant(map[string]string{"": "e", "k": "v", "ka": long})
	r.tells("example 3: the old one empty", r.empty(), now, 4, delta{"", "", "e", false, true}, delta{"k", "", "v", false, true}, delta{"ka", "", long, false, true})
}

func TestExample4(t *testing.T) {
	r := newRig(t, 256)
	old := r.plant(map[string]string{"\x71\x23": "same"})
	now := r.plant(map[string]string{"\x71\x23": "same", "\x71\x24": "v", "\x72": "w", "\x71": "x"})
	r.tells("example 4", old, now, 2+len(r.spots(now))-1, delta{"\x71", "", "x", false, true}, delta{"\x71\x24", "", "v", false, true}, delta{"\x72", "", "w", false, true})
	other := r.plant(map[string]string{"\x71\x24": "v", "\x72": "w", "\x71": "x"})
	r.tells("example 4: a leaf that is not there", old, other, 1+len(r.spots(other)),
		delta{"\x71", "", "x", false, true}, delta{"\x71\x23", "same", "", true, false}, delta{"\x71\x24", "", "v", false, true}, delta{"\x72", "", "w", false, true})
}

func TestExample5(t *testing.T) {
	r := newRig(t, 256)
	old := r.plant(map[string]string{"\x11": long, "\x21": long + "1", "\x31": long + "2"})
	now := r.plant(map[string]string{"\x11": long, "\x21": long + "3", "\x31": long + "2"})
	shared, gone, came := hashOf(256, leaf("1", long)), hashOf(256, leaf("1", long+"1")), hashOf(256, leaf("1", long+"3"))
	delete(r.src.blobs, shared)
	r.tells("example 5: both have it", old, now, 4, delta{"\x21", long + "1", long + "3", true, true})
	for i, h := range []api.Hash{gone, came} {
		b := r.src.blobs[h]
		delete(r.src.blobs, h)
		r.refused("example 5: one has it", old, now, api.ErrAbsent, 3+i)
		r.src.errs[h] = 99
		r.refused("example 5: one has it, with the source's own error", old, now, 99, 3+i)
		delete(r.src.errs, h)
		r.src.blobs[h] = b
	}
}

func TestExample6(t *testing.T) {
	for _, none := range [][]api.Delta{nil, {}, make([]api.Delta, 0, 3)} {
		if c, b := diff.Changes(none), diff.Back(none); len(c) != 0 || len(b) != 0 {
			t.Errorf("24.3: example 6: %v, %v", c, b)
		}
	}
	ds := []api.Delta{{Key: []byte("k"), Old: []byte("a"), Was: true}, {Key: []byte("l"), New: []byte("b"), Is: true}, {Key: []byte("m"), Old: []byte("c"), New: []byte("d"), Was: true, Is: true}}
	if got := deltas(diff.Back(diff.Back(ds))); !slices.Equal(got, deltas(ds)) {
		t.Errorf("24.3: example 6: %v", got)
	}
}
