package cursor_test

import (
	"fmt"
	"maps"
	"math/rand"
	"slices"
	"strings"
	"testing"

	"cairn/api"
	"cairn/cursor"
	"cairn/hstore"
	"cairn/media"
)

// order is the yard's nodes in the order in which a whole scan reads them.
var order = []string{"top", "over", "fork", "middle", "under", "end", "side"}

// everyCall does every call from every entry of the yard, each from a cursor that has come there while the source was right, and holds
// it against the model: with an error the cursor stands where it stood. It tells how many calls answered an error other than ErrEnd.
func (r *rig) everyCall(promise string, root api.Hash, entries map[string]string, spoil func(), mend func()) int {
	r.t.Helper()
	wrong := 0
	count := func(e api.Errno) {
		if e != api.OK && e != api.ErrEnd {
			wrong++
		}
	}
	for _, key := range slices.Sorted(maps.Values(entries)) {
		for i := range 5 {
			mend()
			r.stand(root)
			if e := r.seek(promise, key); e != api.OK || r.here.key != key {
				r.t.Fatalf("%s: %x is not there: %d", promise, key, e)
			}
			spoil()
			switch i {
			case 0:
				count(r.next(promise))
			case 1:
				count(r.prev(promise))
			case 2:
				count(r.last(promise))
			case 3:
				count(r.seek(promise, key))
			case 4:
				count(r.seek(promise, ""))
			}
		}
	}
	mend()
	return wrong
}

// Whatever number the source answers is the answer, and nothing is asked behind it.
func TestErrorsOfTheSource(t *testing.T) {
	for at, name := range order {
		r := newRig(t, 256)
		root, nodes, entries := yard(r)
		h := hashOf(256, nodes[name])
		numbers := []api.Errno{-1, 8, 9, 99999, api.ErrHandle, api.ErrInput, api.ErrNode, api.ErrEnd}
		for e := api.ErrHandle; e <= api.ErrQuery; e += 13 {
			numbers = append(numbers, e)
		}
		for _, e := range numbers {
			what := fmt.Sprintf("13.2, 13.4: error %d at %s", e, name)
			r.src.errs[h] = e
			r.refused(what, root, from(""), 9, e, at+1)
			delete(r.src.errs, h)
		}
		for _, e := range []api.Errno{api.ErrDown, api.ErrEnd, api.ErrInput} {
			what := fmt.Sprintf("13.2: error %d at %s", e, name)
			wrong := r.everyCall(what, root, entries, func() { r.src.errs[h] = e }, func() { delete(r.src.errs, h) })
			if e != api.ErrEnd && wrong < 2 {
				t.Errorf("%s: %d calls answered it", what, wrong)
			}
		}
		encoding := r.src.blobs[h]
		lose, lay := func() { delete(r.src.blobs, h) }, func() { r.src.blobs[h] = encoding }
		if wrong := r.everyCall("13.2: lost: "+name, root, entries, lose, lay); wrong < 2 {
			t.Errorf("13.2: %s is lost: %d calls tell it", name, wrong)
		}
		lose()
		r.refused("13.4: lost: "+name, root, from(""), 9, api.ErrAbsent, at+1)
		r.src.errs[h] = api.ErrFull
		r.refused("13.4: an error beside no bytes: "+name, root, from(""), 9, api.ErrFull, at+1)
	}
}

// wrongs are bytes that a source may tell instead of others.
func wrongs(encoding string, others []string) []string {
	out := []string{"", "\x00", "\x80", "\xc0", "\x01\x02\x03", encoding[1:], encoding[:len(encoding)-1], encoding + "\x00", encoding + encoding, strings.Repeat("\xff", 2000)}
	for i := range len(encoding) {
		for _, turn := range []byte{1, 128} {
			b := []byte(encoding)
			b[i] ^= turn
			out = append(out, string(b))
		}
	}
	for _, b := range others {
		if b != encoding {
			out = append(out, b)
		}
	}
	return out
}

func TestSourceThatTellsOtherBytes(t *testing.T) {
	for at, name := range order {
		r := newRig(t, 256)
		root, nodes, entries := yard(r)
		encoding := nodes[name]
		h := hashOf(256, encoding)
		var others []string
		for _, other := range order {
			others = append(others, nodes[other])
		}
		mend := func() { r.src.blobs[h] = encoding }
		for i, told := range wrongs(encoding, others) {
			what := fmt.Sprintf("%s told as %.20x", name, told)
			spoil := func() { r.src.blobs[h] = told }
			spoil()
			r.refused("13.4: "+what, root, from(""), 9, api.ErrNode, at+1)
			mend()
			if i%20 != at || testing.Short() && i > 60 {
				continue
			}
			if wrong := r.everyCall("13.2: "+what, root, entries, spoil, mend); wrong < 2 {
				t.Errorf("13.2: %s: %d calls tell it", what, wrong)
			}
		}
		r.tells("13.4: the source tells the right bytes again", root, from(""), 9, 7, false, slices.Sorted(maps.Values(entries))...)
	}
}

// Bytes under their right hash that are no node.
func TestWhatIsNoNode(t *testing.T) {
	for _, told := range []string{"these are some bytes, but they are no node's encoding", "", "\x80", "\xc0", "\x01\x02\x03", branch("", kid{1, sibling(1)}), leaf("12", ""), leaf(deep[:65], "v")} {
		r := newRig(t, 256)
		as := r.lay(told)
		if told != "\x80" {
			r.refused("13.4: as a root", as, from(""), 9, api.ErrNode, 1)
			r.stand(as)
			if e, f := r.seek("13.2", ""), r.last("13.2"); e != api.ErrNode || f != api.ErrNode {
				t.Errorf("13.2: as a root: %d, %d", e, f)
			}
		}
		root := r.lay(branch("", kid{4, r.byHash(told)}, kid{5, r.byHash(leaf("1", long))}))
		r.refused("13.4: in a branch", root, from(""), 0, api.ErrNode, 2)
		r.tells("13.4: in a branch, not within", root, from("\x50"), 9, 2, false, "\x51")
		over := r.lay(ext("1", r.byHash(told)))
		r.refused("13.4: under an extension", over, from(""), 0, api.ErrNode, 2)
		r.tells("13.4: under an extension, not within", over, from("\x20"), 9, 1, false)
	}
}

// What is not read may be lost, and all that is read is needed: a scan stops at the entry behind its last, and a cursor at the first that it meets.
func TestNothingElseIsRead(t *testing.T) {
	rnd := rand.New(rand.NewSource(133))
	for range rounds(60) {
		r := newRig(t, 256)
		entries := someMap(rnd)
		root := r.plant(entries)
		all := r.src.blobs
		for range 8 {
			b := someBounds(rnd, entries)
			limit := rnd.Intn(len(entries) + 2)
			r.src.blobs = all
			want, more, e := r.scan("13.4", root, b, limit)
			if e != api.OK {
				t.Fatalf("13.4: %d", e)
			}
			needed := slices.Clone(r.src.asked)
			r.src.blobs = map[api.Hash]string{}
			for _, h := range needed {
				r.src.blobs[h] = all[h]
			}
			if got, gotMore, e := r.scan("13.4: the others are lost", root, b, limit); !slices.Equal(got, want) || more != gotMore || e != api.OK {
				t.Fatalf("13.4: without the nodes that are not read: %d", e)
			}
			if len(needed) == 0 {
				continue
			}
			at := rnd.Intn(len(needed))
			at = slices.Index(needed, needed[at]) // a node may stand at several places
			delete(r.src.blobs, needed[at])
			r.refused("13.4: one of them is lost", root, b, limit, api.ErrAbsent, at+1)
		}
	}
}

// Over a device that may lie a scan tells what the map has, or an error.
func TestOverADevice(t *testing.T) {
	rnd := rand.New(rand.NewSource(134))
	wrong, right := 0, 0
	for range rounds(60) {
		book := newBook(t, 256)
		d, e := media.New(4096, 100)
		store, f := hstore.New(d, book, rnd.Intn(3))
		if e != api.OK || f != api.OK {
			t.Fatal(e, f)
		}
		r := newRig(t, 256)
		entries := someMap(rnd)
		root := r.plant(entries)
		for _, b := range r.src.blobs {
			if _, e := store.Put([]byte(b)); e != api.OK {
				t.Fatal(e)
			}
		}
		store.Forget()
		for range 12 {
			b := someBounds(rnd, entries)
			limit := rnd.Intn(len(entries) + 2)
			var choices []api.Choice
			for range rnd.Intn(6) {
				choices = append(choices, []api.Choice{{}, {}, {Kind: api.Drop}, {Kind: api.Alter, N: rnd.Intn(99), M: rnd.Intn(256)}}[rnd.Intn(4)])
			}
			d.Choose(choices...)
			got, more, e := cursor.Scan(store, book, root, api.Bounds{From: []byte(b.from), To: []byte(b.to), Open: b.open}, limit)
			d.Choose() // the list is not there any more
			want := sortedWithin(entries, b)
			switch {
			case e == api.ErrNode && len(got) == 0 && !more:
				wrong++
			case e != api.OK || more != (len(want) > limit) || !slices.Equal(pairs(got), want[:min(limit, len(want))]):
				t.Fatalf("W1: %v, limit %d: %d entries, %v, %d", b, limit, len(got), more, e)
			default:
				right++
			}
		}
	}
	if few := rounds(60); wrong < few/2 || right < few {
		t.Errorf("%d scans met a lie, %d did not", wrong, right)
	}
}
