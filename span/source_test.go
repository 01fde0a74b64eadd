package span_test

import (
	"fmt"
	"maps"
	"math/rand"
	"slices"
	"strings"
	"testing"

	"cairn/api"
	"cairn/hstore"
	"cairn/media"
	"cairn/span"
)

// order is the yard's nodes in the order in which they are read.
var order = []string{"top", "over", "fork", "middle", "under", "end", "side"}

// inTheYard goes over all bounds of the yard with one of its nodes spoilt: where it is read there is an error, elsewhere all is as it was.
func (r *rig) inTheYard(promise, name string, want api.Errno) {
	r.t.Helper()
	root, _, entries := yardRoot(r)
	for _, c := range yardCases {
		read := strings.Fields(c.read)
		if at := slices.Index(read, name); at >= 0 {
			r.refused(promise, root, c.b, want, at+1)
			continue
		}
		if m, v := r.both(promise, root, c.b); m.e != api.OK || lettered(entries, v.entries) != c.want || len(m.asked) != len(read) {
			r.t.Errorf("%s: %v does not need it: %d, %v", promise, c.b, m.e, v)
		}
	}
}

// yardRoot tells the yard, without laying it.
func yardRoot(r *rig) (api.Hash, map[string]string, map[string]string) {
	return yard(newRig(r.t, r.bits))
}

// Whatever number the source answers is the answer, and nothing is asked behind it; where the node is not read, there is none.
func TestErrorsOfTheSource(t *testing.T) {
	for at, name := range order {
		r := newRig(t, 256)
		root, nodes, _ := yard(r)
		h := hashOf(256, nodes[name])
		numbers := []api.Errno{-1, 8, 9, 99999, api.ErrHandle, api.ErrInput, api.ErrNode, api.ErrFull, api.ErrProof}
		for e := api.ErrHandle; e <= api.ErrQuery; e += 13 {
			numbers = append(numbers, e)
		}
		for _, e := range numbers {
			r.src.errs[h] = e
			got := r.callProve(root, from(""))
			if got.proof != "" || got.e != e || len(got.asked) != at+1 {
				t.Errorf("17.2: error %d at %s: %.20x, %d, with %d asked", e, name, got.proof, got.e, len(got.asked))
			}
		}
		delete(r.src.errs, h)
		encoding := r.src.blobs[h]
		delete(r.src.blobs, h)
		r.inTheYard("17.2: lost: "+name, name, api.ErrAbsent)
		r.src.errs[h] = api.ErrDown
		r.inTheYard("17.2: an error beside no bytes: "+name, name, api.ErrDown)
		r.src.blobs[h] = encoding
		if got := r.callProve(root, from("")); got.proof != "" || got.e != api.ErrDown || len(got.asked) != at+1 {
			t.Errorf("17.2: an error beside the right bytes: %d", got.e)
		}
	}
}

// wrongs are bytes that a source may tell instead of others.
func wrongs(encoding string, others []string) []string {
	out := []string{"", "\x00", "\x80", "\xc0", "\x01\x02\x03", encoding[1:], encoding[:len(encoding)-1], encoding + "\x00", encoding + encoding, strings.Repeat("\xff", 2000)}
	for i := range len(encoding) {
		for _, turn := range []byte{1, 128} {
			b := []byte(encoding)
			b[i] ^= turn
			out = append(out, string(b))
		}
	}
	for _, b := range others {
		if b != encoding {
			out = append(out, b)
		}
	}
	return out
}

func TestSourceThatTellsOtherBytes(t *testing.T) {
	for at, name := range order {
		r := newRig(t, 256)
		root, nodes, entries := yard(r)
		encoding := nodes[name]
		h := hashOf(256, encoding)
		var others []string
		for _, other := range order {
			others = append(others, nodes[other])
		}
		for i, told := range wrongs(encoding, others) {
			what := fmt.Sprintf("17.2: %s told as %.20x", name, told)
			r.src.blobs[h] = told
			r.refused(what, root, from(""), api.ErrNode, at+1)
			if i%20 == at {
				r.inTheYard(what, name, api.ErrNode)
			}
		}
		r.src.blobs[h] = encoding
		r.tells("17.2: the source tells the right bytes again", root, from(""), 7, slices.Sorted(maps.Values(entries))...)
	}
}

// Bytes under their right hash that are no node, where the walk reads them and where it does not.
func TestWhatIsNoNode(t *testing.T) {
	for _, told := range []string{"these are some bytes, but they are no node's encoding", "", "\x80", "\xc0", "\x01\x02\x03", branch("", kid{1, sibling(1)}), leaf("12", ""), leaf(deep[:65], "v"), strings.Repeat("\x00", 1024), strings.Repeat("\x00", 1025), strings.Repeat("\xc0", 140000)} {
		r := newRig(t, 256)
		as := r.lay(told)
		if told != "\x80" {
			r.refused("17.2: as a root", as, from(""), api.ErrNode, 1)
			r.refused("17.2: as a root", as, within("k", "k"), api.ErrNode, 1)
			r.tells("17.2: as a root that is not read", as, within("k", ""), 0)
		}
		root := r.lay(branch("", kid{4, r.byHash(told)}, kid{5, r.byHash(leaf("1", long))}))
		r.refused("17.2: in a branch", root, from(""), api.ErrNode, 2)
		r.tells("17.2: in a branch, not within", root, from("\x50"), 2, "\x51")
		r.tells("17.2: in a branch, not within", root, within("", "\x3f"), 1)
		over := r.lay(ext("1", r.byHash(told)))
		r.refused("17.2: under an extension", over, from(""), api.ErrNode, 2)
		r.tells("17.2: under an extension, not within", over, from("\x20"), 1)
	}
}

// What is not read may be lost, and all that is read is needed.
func TestNothingElseIsRead(t *testing.T) {
	rnd := rand.New(rand.NewSource(171))
	for range rounds(60) {
		r := newRig(t, 256)
		m := r.plant(someMap(rnd))
		all := r.src.blobs
		for range 8 {
			b := someBounds(rnd, m.entries)
			r.src.blobs = all
			first, v := r.both("17.2", m.root, b)
			if first.e != api.OK || !v.is(m.has(b)) || first.proof != m.proof(b) {
				t.Fatalf("17.2: %v: %d, %v, not %v", b, first.e, v, m.has(b))
			}
			r.src.blobs = map[api.Hash]string{}
			for _, h := range first.asked {
				r.src.blobs[h] = all[h]
			}
			if got, _ := r.both("17.2: the others are lost", m.root, b); got.proof != first.proof {
				t.Fatalf("17.2: without the nodes that are not read: %d", got.e)
			}
			if len(first.asked) == 0 {
				continue
			}
			at := rnd.Intn(len(first.asked))
			at = slices.Index(first.asked, first.asked[at]) // a node may stand at several places
			delete(r.src.blobs, first.asked[at])
			r.refused("17.2: one of them is lost", m.root, b, api.ErrAbsent, at+1)
		}
	}
}

// Over a device that may lie Prove answers the one proof, or an error.
func TestOverADevice(t *testing.T) {
	rnd := rand.New(rand.NewSource(172))
	wrong, right := 0, 0
	for range rounds(60) {
		book := newBook(t, 256)
		d, e := media.New(4096, 100)
		store, f := hstore.New(d, book, rnd.Intn(3))
		if e != api.OK || f != api.OK {
			t.Fatal(e, f)
		}
		m := plant(256, someMap(rnd))
		for _, s := range m.spots {
			if _, e := store.Put([]byte(s.encoding)); e != api.OK {
				t.Fatal(e)
			}
		}
		store.Forget()
		for range 12 {
			b := someBounds(rnd, m.entries)
			var choices []api.Choice
			for range rnd.Intn(6) {
				choices = append(choices, []api.Choice{{}, {}, {Kind: api.Drop}, {Kind: api.Alter, N: rnd.Intn(99), M: rnd.Intn(256)}}[rnd.Intn(4)])
			}
			d.Choose(choices...)
			p, e := span.Prove(store, book, m.root, boundsOf(b))
			d.Choose() // the list is not there any more
			switch {
			case e == api.ErrNode && len(p) == 0:
				wrong++
			case e != api.OK || string(p) != m.proof(b):
				t.Fatalf("W1: %v: %.60x, %d", b, p, e)
			default:
				right++
			}
		}
	}
	if few := rounds(60); wrong < few/2 || right < few {
		t.Errorf("%d proofs met a lie, %d did not", wrong, right)
	}
}
