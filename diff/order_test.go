package diff_test

import (
	"fmt"
	"slices"
	"strings"
	"testing"

	"cairn/api"
)

// yard is two tries, all of whose nodes stand by their hashes, with a name for each node.
func yard(r *rig) (old, now api.Hash, nodes map[string]string) {
	nodes = map[string]string{}
	lay := func(name, encoding string) string {
		if len(encoding) < 32 {
			r.t.Fatalf("%s is too short", name)
		}
		nodes[name] = encoding
		return r.byHash(encoding)
	}
	value := func(x string) string { return strings.Repeat(x, 40) }
	shared := lay("shared leaf", leaf("1", value("s")))
	sharedFork := lay("shared fork", branch("", kid{1, lay("shared left", leaf("", value("l")))}, kid{2, lay("shared right", leaf("", value("r")))}))
	oldFork := lay("old fork", branch("", kid{0, lay("old 50", leaf("", value("a")))}, kid{3, lay("shared 53", leaf("", value("b")))}, kid{4, lay("old 54", leaf("", value("c")))}))
	newFork := lay("new fork", branch("", kid{0, lay("new 50", leaf("", value("A")))}, kid{3, lay("shared 53", leaf("", value("b")))}, kid{9, lay("new 59", leaf("", value("d")))}))
	oldUnder := lay("old under", branch("", kid{2, lay("old 962", leaf("7", value("e")))}, kid{3, lay("shared 963", leaf("7", value("f")))}))
	newUnder := lay("new under", branch("", kid{2, lay("new 962", leaf("7", value("E")))}, kid{3, lay("shared 963", leaf("7", value("f")))}))
	oldTop := branch("old", kid{1, shared}, kid{2, lay("old 2", leaf("1", value("o")))}, kid{3, sharedFork}, kid{5, oldFork}, kid{9, lay("old ext", ext("6", oldUnder))})
	newTop := branch("new", kid{1, shared}, kid{3, sharedFork}, kid{4, lay("new 4", leaf("1", value("n")))}, kid{5, newFork}, kid{9, lay("new ext", ext("6", newUnder))})
	lay("old top", oldTop)
	lay("new top", newTop)
	return hashOf(r.bits, oldTop), hashOf(r.bits, newTop), nodes
}

// inOrder are the names of the nodes that are read, in the order in which they are.
var inOrder = []string{"old top", "new top", "old 2", "new 4", "old fork", "new fork", "old 50", "new 50", "old 54", "new 59", "old ext", "new ext", "old under", "new under", "old 962", "new 962"}

func (r *rig) names(nodes map[string]string, hashes []api.Hash) []string {
	var out []string
	for _, h := range hashes {
		name := fmt.Sprintf("%.3x", h)
		for n, b := range nodes {
			if hashOf(r.bits, b) == h {
				name = n
			}
		}
		out = append(out, name)
	}
	return out
}

func TestOrderOfReading(t *testing.T) {
	r := newRig(t, 256)
	old, now, nodes := yard(r)
	for name := range nodes {
		if strings.HasPrefix(name, "shared") {
			r.src.errs[hashOf(256, nodes[name])] = api.ErrDown
		}
	}
	r.diff("24.2", old, now)
	if got := r.names(nodes, r.src.asked); !slices.Equal(got, inOrder) {
		t.Errorf("24.2: read are %q, not %q", got, inOrder)
	}
	r.diff("24.2: turned about", now, old)
	turned := []string{"new top", "old top", "old 2", "new 4", "new fork", "old fork", "new 50", "old 50", "old 54", "new 59", "new ext", "old ext", "new under", "old under", "new 962", "old 962"}
	if got := r.names(nodes, r.src.asked); !slices.Equal(got, turned) {
		t.Errorf("24.2: turned about read are %q, not %q", got, turned)
	}
}

// Each node that is read is lost in turn, or wrong, or told with an error of the source's own: that ends it just there.
func TestEachNodeLost(t *testing.T) {
	r := newRig(t, 256)
	old, now, nodes := yard(r)
	want, _ := r.diff("24.1", old, now)
	for at, name := range inOrder {
		h := hashOf(256, nodes[name])
		delete(r.src.blobs, h)
		r.refused("24.1: lost: "+name, old, now, api.ErrAbsent, at+1)
		numbers := []api.Errno{-1, 8, 99999, api.ErrHandle, api.ErrInput, api.ErrNode, api.ErrFull}
		for e := api.ErrHandle; e <= api.ErrQuery; e += 7 {
			numbers = append(numbers, e)
		}
		for _, e := range numbers {
			r.src.errs[h] = e
			r.refused(fmt.Sprintf("24.1: error %d and no bytes: %s", e, name), old, now, e, at+1)
			r.src.blobs[h] = nodes[name]
			r.refused(fmt.Sprintf("24.1: error %d beside the bytes: %s", e, name), old, now, e, at+1)
			delete(r.src.blobs, h)
		}
		delete(r.src.errs, h)
		for _, told := range wrongs(nodes[name], nodes) {
			r.src.blobs[h] = told
			r.refused(fmt.Sprintf("24.1: %s told as %.20x", name, told), old, now, api.ErrNode, at+1)
		}
		r.src.blobs[h] = nodes[name]
	}
	for name, b := range nodes {
		if slices.Contains(inOrder, name) {
			continue
		}
		h := hashOf(256, b)
		for _, spoil := range []func(){func() { delete(r.src.blobs, h) }, func() { r.src.blobs[h] = "wrong" }, func() { r.src.errs[h] = api.ErrDown }} {
			spoil()
			r.tells("24.6: both have "+name, old, now, len(inOrder), want...)
		}
	}
}

// wrongs are bytes that a source may tell instead of others.
func wrongs(encoding string, others map[string]string) []string {
	out := []string{"", "\x00", "\x80", "\xc0", "\x01\x02\x03", encoding[1:], encoding[:len(encoding)-1], encoding + "\x00", encoding + encoding, strings.Repeat("\xff", 2000)}
	for i := range len(encoding) {
		if testing.Short() && i%9 > 0 {
			continue
		}
		for _, turn := range []byte{1, 128} {
			b := []byte(encoding)
			b[i] ^= turn
			out = append(out, string(b))
		}
	}
	for _, b := range others {
		if b != encoding {
			out = append(out, b)
		}
	}
	return out
}

// Bytes under their right hash that are no node, at the root, in a branch, under an extension, on either side.
func TestWhatIsNoNode(t *testing.T) {
	for _, told := range []string{"these are some bytes, but they are no node's encoding", "", "\xc0", "\x01\x02\x03", branch("", kid{1, sibling(1)}), leaf("12", ""), leaf(deep[:65], "v"), leaf("12", strings.Repeat("v", 257))} {
		r := newRig(t, 256)
		other := r.lay(leaf("12", "v"))
		as := r.lay(told)
		r.refused("24.2: as a root", as, other, api.ErrNode, 1)
		r.refused("24.2: as a root, beside nothing", as, r.empty(), api.ErrNode, 1)
		r.refused("24.2: as a root", other, as, api.ErrNode, 2)
		r.tells("24.5: as both roots", as, as, 0)
		inBranch := r.lay(branch("", kid{4, r.byHash(told)}, kid{5, r.byHash(leaf("1", long))}))
		r.refused("24.2: in a branch", inBranch, other, api.ErrNode, 3)
		r.refused("24.2: in a branch", other, inBranch, api.ErrNode, 3)
		under := r.lay(ext("1", r.byHash(told)))
		r.refused("24.2: under an extension", under, other, api.ErrNode, 3)
		r.refused("24.2: under an extension", other, under, api.ErrNode, 3)
		r.tells("24.2: in a branch on both sides", inBranch, r.lay(branch("w", kid{4, r.byHash(told)}, kid{5, r.byHash(leaf("1", long))})), 2, delta{"", "", "w", false, true})
	}
}

// Where several errors would stand: the first one that is met is the answer.
func TestOrderOfErrors(t *testing.T) {
	r := newRig(t, 256)
	old, now, nodes := yard(r)
	for i, first := range inOrder {
		for _, second := range inOrder[i+1:] {
			for _, c := range []struct {
				spoil [2]func(h api.Hash)
				want  api.Errno
			}{
				{[2]func(h api.Hash){r.lose, r.spoil}, api.ErrAbsent},
				{[2]func(h api.Hash){r.spoil, r.lose}, api.ErrNode},
				{[2]func(h api.Hash){r.down, r.spoil}, api.ErrDown},
			} {
				one, two := hashOf(256, nodes[first]), hashOf(256, nodes[second])
				c.spoil[0](one)
				c.spoil[1](two)
				r.refused(fmt.Sprintf("24.2: %s, then %s", first, second), old, now, c.want, i+1)
				for _, name := range []string{first, second} {
					r.lay(nodes[name])
					delete(r.src.errs, hashOf(256, nodes[name]))
				}
			}
		}
	}
}

func (r *rig) lose(h api.Hash)  { delete(r.src.blobs, h) }
func (r *rig) spoil(h api.Hash) { r.src.blobs[h] = "wrong" }
func (r *rig) down(h api.Hash)  { r.src.errs[h] = api.ErrDown }

// At one place: what stands whole on the old side is looked at ahead of the reading of the new side's hash, and one that is read ahead
// of what stands whole on the new side.
func TestOrderAtOnePlace(t *testing.T) {
	r := newRig(t, 256)
	at := func(ref string) api.Hash { return r.lay(branch("v", kid{3, ref}, kid{4, sibling(1)})) }
	wrongWhole, rightWhole := at(leaf("12", "v")), at(leaf("1", "v"))
	wrongByHash, rightByHash := at(r.byHash(leaf("12", long))), at(r.byHash(leaf("1", long)))
	lost, nothing := at(item(strings.Repeat("h", 32))), at(item(""))
	for _, c := range []struct {
		what     string
		old, now api.Hash
		want     api.Errno
		asked    int
	}{
		{"whole and wrong, then lost", wrongWhole, lost, api.ErrNode, 2},
		{"lost, then whole and wrong", lost, wrongWhole, api.ErrAbsent, 3},
		{"whole and right, then lost", rightWhole, lost, api.ErrAbsent, 3},
		{"by its hash and wrong, then lost", wrongByHash, lost, api.ErrNode, 3},
		{"lost, then by its hash and wrong", lost, wrongByHash, api.ErrAbsent, 3},
		{"by its hash and right, then lost", rightByHash, lost, api.ErrAbsent, 4},
		{"by its hash and right, then whole and wrong", rightByHash, wrongWhole, api.ErrNode, 3},
		{"whole and wrong, then by its hash and right", wrongWhole, rightByHash, api.ErrNode, 2},
		{"whole and right, then by its hash and wrong", rightWhole, wrongByHash, api.ErrNode, 3},
		{"nothing, then by its hash and wrong", nothing, wrongByHash, api.ErrNode, 3},
	} {
		r.refused("24.2: "+c.what, c.old, c.now, c.want, c.asked)
	}
}

// A node that stands at two places is read at each; so is one that the two sides have at different places.
func TestOneHashAtTwoPlaces(t *testing.T) {
	r := newRig(t, 256)
	two := map[string]string{"\x11": long, "\x21": long, "\x31": "v"}
	none := map[string]string{"\x31": "v"}
	r.maps("24.2: at two places of one side", two, none)
	same := hashOf(256, leaf("1", long))
	if n := count(r.src.asked, same); n != 2 {
		t.Errorf("24.2: it is read %d times", n)
	}
	r.maps("24.2: at two places, one on each side", map[string]string{"\x11": long, "\x31": "v"}, map[string]string{"\x21": long, "\x31": "v"})
	if n := count(r.src.asked, same); n != 2 {
		t.Errorf("24.2: it is read %d times", n)
	}
	r.maps("24.2: at two places of the one, at one of them of the other", two, map[string]string{"\x21": long, "\x31": "v"})
	if n := count(r.src.asked, same); n != 1 {
		t.Errorf("24.6: it is read %d times", n)
	}
	forks := map[string]string{"\x41\x11": long, "\x41\x21": long, "\x42\x11": long, "\x42\x21": long}
	r.maps("24.2: nodes at two places, with nodes at two places", forks, none)
	if n := count(r.src.asked, same); n != 4 {
		t.Errorf("24.2: it is read %d times", n)
	}
}

func count(hashes []api.Hash, h api.Hash) int {
	n := 0
	for _, x := range hashes {
		if x == h {
			n++
		}
	}
	return n
}
