package node_test

import (
	"bytes"
	"math/rand"
	"strings"
	"sync"
	"testing"

	"cairn/api"
	"cairn/node"
)

func TestThereAndBack(t *testing.T) {
	random := rand.New(rand.NewSource(7))
	nodes := someNodes()
	for i := range 3000 {
		nodes = append(nodes, randomNode(random, 1+i%3, i%2 == 0))
	}
	of := map[string]int{}
	for i, n := range nodes {
		expectNode(t, "a node that may be", n, true)
		b, _ := node.Encode(n)
		if other, met := of[string(b)]; met && !same(nodes[other], n) {
			t.Errorf("Nodes: %s and %s have one encoding %x", tell(nodes[other]), tell(n), b)
		}
		of[string(b)] = i
		expectBytes(t, "an encoding", string(b), true)
	}
}

// randomItem tells the form of an item such as stands in nodes, rightly or not.
func randomItem(random *rand.Rand, depth int) string {
	switch choice := random.Intn(12); {
	case choice < 3:
		return "\x80"
	case choice < 5:
		h := someHash(random.Intn(8))
		return str(string(h[:]))
	case choice < 6:
		return str(string(randomBytes(random, 0, 40)))
	case choice < 7 && depth > 0:
		return randomList(random, depth-1)
	}
	n := randomNode(random, 1+random.Intn(3), true)
	return wantEncoding(n)
}

// randomList tells the form of a list such as a node has, rightly or not.
func randomList(random *rand.Rand, depth int) string {
	way := str(wantWay(randomPath(random, 0, 5), random.Intn(2) == 0))
	switch random.Intn(6) {
	case 0:
		return list(way, str(string(randomBytes(random, 0, 20))))
	case 1, 2:
		return list(way, randomItem(random, depth))
	case 3:
		var items []string
		for range random.Intn(20) {
			items = append(items, randomItem(random, depth))
		}
		return list(items...)
	}
	items := repeat("\x80", 17)
	for range random.Intn(4) {
		items[random.Intn(16)] = randomItem(random, depth)
	}
	items[16] = str(string(randomBytes(random, 0, 3)))
	return list(items...)
}

func TestBackAndThere(t *testing.T) {
	random := rand.New(rand.NewSource(77))
	taken, refused := 0, 0
	for range 20000 {
		if checkBytes(t, "a list", []byte(randomList(random, 2))) {
			taken++
		} else {
			refused++
		}
	}
	if taken < 4000 || refused < 4000 {
		t.Errorf("7.7: %d taken and %d refused are too few of one", taken, refused)
	}
	for range 20000 {
		checkBytes(t, "any bytes", randomBytes(random, 0, 40))
	}
}

func TestShortBytes(t *testing.T) {
	checkBytes(t, "nothing", nil)
	for n := range 1 << 16 {
		two := []byte{byte(n >> 8), byte(n)}
		checkBytes(t, "one byte", two[:1])
		checkBytes(t, "two bytes", two)
		checkBytes(t, "a list of two bytes", append([]byte{0xc2}, two...))
	}
}

func TestAlteredEncodings(t *testing.T) {
	for _, n := range someNodes() {
		encoding := wantEncoding(n)
		if len(encoding) > 100 && testing.Short() {
			continue
		}
		for at := range encoding {
			for _, b := range []byte{0, 1, 2, 4, 8, 16, 32, 64, 128, 255} {
				altered := []byte(encoding)
				altered[at] ^= b
				checkBytes(t, "an altered encoding", altered)
			}
			checkBytes(t, "a byte less", []byte(encoding[:at]+encoding[at+1:]))
			checkBytes(t, "a byte more", []byte(encoding[:at]+"\x80"+encoding[at:]))
		}
	}
}

func TestEveryByteTurned(t *testing.T) {
	for _, n := range []api.Node{leaf([]byte{1, 2, 3, 4}, []byte("x")), leafOf(31), extension([]byte{7}, hashed(1)), extensionOf(31), branchOf(31), branchOf(32)} {
		encoding := wantEncoding(n)
		for at := range encoding {
			for b := range 256 {
				altered := []byte(encoding)
				altered[at] = byte(b)
				checkBytes(t, "an altered encoding", altered)
			}
		}
	}
}

func TestBeginningsAndLonger(t *testing.T) {
	random := rand.New(rand.NewSource(78))
	for _, n := range someNodes() {
		encoding := wantEncoding(n)
		for cut := range encoding {
			if _, e := node.Decode([]byte(encoding[:cut])); e != api.ErrShape {
				t.Errorf("7.8: the first %d bytes of %x: error %d, not ErrShape", cut, encoding, e)
			}
		}
		behind := []string{encoding, "\xc2\x20a", "\xc0", strings.Repeat("\x00", 1000)}
		for b := range 256 {
			behind = append(behind, string([]byte{byte(b)}))
		}
		for range 20 {
			behind = append(behind, string(randomBytes(random, 1, 50)))
		}
		for _, s := range behind {
			if _, e := node.Decode([]byte(encoding + s)); e != api.ErrShape {
				t.Errorf("7.8: %x with %x behind it: error %d, not ErrShape", encoding, s, e)
			}
		}
	}
}

// nested tells lists in one another: each the second item behind a path.
func nested(way, inner string, depth int) string {
	for range depth {
		inner = list(str(way), inner)
	}
	return inner
}

func TestNodesInOneAnother(t *testing.T) {
	for depth := 1; depth < 16; depth++ {
		for _, inner := range []string{"\x80", "\xc0", "\xc2\x20a", wantEncoding(branchOf(22))} {
			s := nested("\x17", inner, depth)
			taken := depth == 1 && len(inner) == 22
			expectBytes(t, "extensions in one another", s, taken)
			expectNode(t, "a branch over extensions in one another", branch([]byte("v"), map[int]api.Ref{3: raw(s)}), taken)
			expectBytes(t, "sixteen such kids", list(append(repeat(s, 16), "\x80")...), taken)
		}
	}
	for _, depth := range []int{1, 2, 79, 80, 81, 1000} {
		for _, inner := range []string{"", "\x80", "\xc2\x20a"} {
			s := inner
			for range depth {
				s = list(s)
			}
			checkBytes(t, "lists in one another", []byte(s))
			checkBytes(t, "an extension over lists in one another", []byte(list("\x17", s)))
			checkNode(t, "a branch over lists in one another", branch([]byte("v"), map[int]api.Ref{3: raw(s)}))
		}
	}
	two := branch(nil, map[int]api.Ref{0: whole(extensionOf(31)), 9: whole(branchOf(31))})
	expectNode(t, "a branch over an extension over a branch over leaves", two, true)
}

func TestCallsEnd(t *testing.T) {
	for _, length := range []int{1000, 1024, 1025, 1 << 16, 1 << 20, 1<<20 + 1} {
		for _, b := range []byte{0, 0x80, 0xb8, 0xc0, 0xc1, 0xf8, 0xff} {
			s := bytes.Repeat([]byte{b}, length)
			n, e := node.Decode(s)
			l, f := node.Hashes(s)
			if e != api.ErrShape || f != api.ErrShape || !same(n, api.Node{}) || len(l) != 0 {
				t.Errorf("7.9: %d bytes %x: %d and %d, not ErrShape", length, b, e, f)
			}
			expectNode(t, "a long path", leaf(s, []byte("x")), false)
			expectNode(t, "a long value", leaf(nil, s), false)
			expectNode(t, "a long whole node", extension([]byte{1}, api.Ref{Kind: api.RefNode, Node: s}), false)
			expectNode(t, "a long whole kid", branch([]byte("v"), map[int]api.Ref{1: {Kind: api.RefNode, Node: s}}), false)
		}
	}
}

func TestNilIsEmpty(t *testing.T) {
	for _, n := range someNodes() {
		b, e := node.Encode(plain(n))
		if want := wantEncoding(n); e != api.OK || string(b) != want || node.Check(plain(n)) != api.OK {
			t.Errorf("R4: with empty lists Encode = %x, %d, not %x", b, e, want)
		}
	}
	_, e := node.Decode(nil)
	_, f := node.Decode([]byte{})
	_, g := node.Hashes([]byte{})
	if e != api.ErrShape || f != e || g != e {
		t.Errorf("R4: no bytes: %d, %d and %d", e, f, g)
	}
	if r := node.Refer(newBook(t, 256), nil); r.Kind != api.RefNode || len(r.Node) != 0 {
		t.Errorf("R4: Refer of nil = %+v", r)
	}
}

func TestSideBySide(t *testing.T) {
	var all sync.WaitGroup
	nodes, book := someNodes(), newBook(t, 256)
	empty := node.Empty(newBook(t, 256))
	for range 8 {
		all.Go(func() {
			for _, n := range nodes {
				checkNode(t, "side by side", n)
				encoding, _ := node.Encode(n)
				checkBytes(t, "side by side", encoding)
				if r := node.Refer(book, encoding); (r.Kind == api.RefHash) != (len(encoding) >= 32) {
					t.Errorf("R5: Refer side by side = %+v", r)
				}
				if node.Empty(book) != empty {
					t.Errorf("R5: Empty side by side")
				}
			}
		})
	}
	all.Wait()
}
