package fetch_test

import (
	"fmt"
	"maps"
	"math/rand"
	"slices"
	"testing"

	"cairn/api"
	"cairn/cursor"
	"cairn/fetch"
	"cairn/find"
	"cairn/node"
	"cairn/shape"
	"cairn/sweep"
)

// holds looks that a fetch is done, has just the nodes of a trie, and answers as a source as the map does.
func (w *tour) holds(promise string, m trie, entries map[string]string) {
	w.t.Helper()
	w.is(promise, len(m.keys))
	for _, h := range m.keys {
		w.has(promise, h, m.nodes[h])
	}
	for _, h := range w.known {
		if _, there := m.nodes[h]; !there {
			w.lacks(promise, h)
		}
	}
	for k, v := range entries {
		w.gets(promise, m.root, k, v)
		for _, near := range []string{k + "\x00", k[:max(len(k), 1)-1], "\x33" + k} {
			if len(near) <= api.MaxKey {
				w.gets(promise, m.root, near, entries[near])
			}
		}
	}
	got, more, e := cursor.Scan(w.f, w.book, m.root, api.Bounds{Open: true}, len(entries)+1)
	if root, f := shape.Root(w.book, got); root != m.root || len(got) != len(entries) || more || e != api.OK || f != api.OK {
		w.fails("%s: a scan over it tells %d entries, %v, %d", promise, len(got), more, e)
	}
}

// gets looks what a key has over the fetch; nothing is the empty text.
func (w *tour) gets(promise string, root api.Hash, k, v string) {
	w.t.Helper()
	got, found, e := find.Get(w.f, w.book, root, []byte(k))
	if string(got) != v || found != (v != "") || e != api.OK {
		w.fails("%s: Get(%x) over it answers %.12q, %v, %d, not %.12q", promise, k, got, found, e, v)
	}
}

// fill supplies whatever is wanted with its true bytes, in rounds, each in any order, with rubbish between; it tells how many rounds
// there were and what was supplied.
func (w *tour) fill(rnd *rand.Rand, m trie, rubbish []string, atOnce int) (rounds int, supplied []api.Hash) {
	w.t.Helper()
	for ; !w.f.Done(); rounds++ {
		for _, h := range shuffled(rnd, w.f.Wants(atOnce)) {
			for len(rubbish) > 0 && rnd.Intn(2) == 0 {
				if e := w.supply(some(rnd, rubbish)); e == api.OK {
					w.fails("P25.3: rubbish is taken")
				}
			}
			b, there := m.nodes[h]
			if !there {
				w.fails("P25.5: %.4x is wanted, which is none of the trie's", h)
			}
			if e := w.supply(b); e != api.OK {
				w.fails("P25.6: a true node answers %d", e)
			}
			supplied = append(supplied, h)
		}
	}
	return rounds, supplied
}

// without is those nodes of a trie whose hashes stand not in a list, by their hashes.
func (m trie) without(l []api.Hash) []api.Hash {
	return slices.DeleteFunc(slices.Clone(m.keys), func(h api.Hash) bool { return slices.Contains(l, h) })
}

// levels tells how many of a trie's nodes that stand by their hashes lie on the way to the lowest one, by the shortest way to each.
func (m trie) levels() int {
	var met []api.Hash
	n := 0
	for level := []api.Hash{m.root}; len(m.keys) > 0 && len(level) > 0; n++ {
		met = append(met, level...)
		var next []api.Hash
		for _, h := range level {
			below, _ := node.Hashes([]byte(m.nodes[h]))
			for _, h := range below {
				if !slices.Contains(met, h) {
					next = append(next, h)
				}
			}
		}
		level = next
	}
	return n
}

// rubbish is what a peer may send beside a trie's nodes: none of it is one of them.
func rubbish(rnd *rand.Rand, m trie, more ...string) []string {
	l := slices.Concat(noBlobs(), noNodes(), more)
	for _, b := range m.texts() {
		turned := []byte(b)
		turned[rnd.Intn(len(turned))] ^= byte(1 << rnd.Intn(8))
		l = append(l, string(turned), b+"\x00", b[:rnd.Intn(len(b))], b[1:])
	}
	return slices.DeleteFunc(l, func(b string) bool { return slices.Contains(m.texts(), b) })
}

// Round by round, in any order, with any of the trie's nodes in have, and rubbish in it and between: as many Supply as there are nodes
// that are not in have, and then the trie is there.
func TestFilledRoundByRound(t *testing.T) {
	for part := range 6 {
		t.Run(fmt.Sprint(part), func(t *testing.T) {
			t.Parallel()
			rnd := rand.New(rand.NewSource(int64(2500 + part)))
			greatest, deepest := 0, 0
			for round := range rounds(120) {
				bits := []int{256, 255, 160, 64}[round%4]
				book := newBook(t, bits)
				entries := someMap(rnd, 40)
				m, other := trieOf(t, book, entries), trieOf(t, book, someMap(rnd, 9))
				waste := rubbish(rnd, m, other.texts()...)
				have := shuffled(rnd, m.texts())
				have = append(have[:rnd.Intn(len(have)+1)], some(rnd, waste), some(rnd, waste))
				if round%3 == 0 {
					have = nil
				}
				w := beginWith(t, bits, book, m.root, shuffled(rnd, have)...)
				atOnce := []int{1, 2, 1 + rnd.Intn(9), 1 << 20}[rnd.Intn(4)]
				n, supplied := w.fill(rnd, m, waste, atOnce)
				var there []api.Hash
				for _, b := range have {
					there = append(there, hashOf(bits, b))
				}
				if !slices.Equal(rising(supplied), m.without(there)) {
					w.fails("P25.6: %d are supplied, not %d", len(supplied), len(m.without(there)))
				}
				if atOnce == 1<<20 && n > m.levels() {
					w.fails("P25.6: %d rounds for %d levels", n, m.levels())
				}
				w.holds("P25.5", m, entries)
				if !book.Sound() {
					w.fails("the book of %d bits is not sound", bits)
				}
				greatest, deepest = max(greatest, len(m.keys)), max(deepest, m.levels())
			}
			if greatest < 20 || deepest < 4 {
				t.Errorf("the greatest trie has %d nodes by their hashes, the deepest %d levels", greatest, deepest)
			}
		})
	}
}

// With the nodes of another trie in have just those are supplied that the other one does not have.
func TestAnotherTrieInHave(t *testing.T) {
	t.Parallel()
	rnd := rand.New(rand.NewSource(257))
	shared, own := 0, 0
	for round := range rounds(300) {
		book := newBook(t, 256)
		old := someMap(rnd, 40)
		now := changed(rnd, old)
		if round%10 == 0 {
			now = someMap(rnd, 40)
		}
		a, b := trieOf(t, book, old), trieOf(t, book, now)
		w := beginWith(t, 256, book, b.root, shuffled(rnd, a.texts())...)
		for _, h := range w.f.Wants(1 << 20) {
			if slices.Contains(a.keys, h) {
				w.fails("P25.7: %.4x is wanted, which both have", h)
			}
		}
		_, supplied := w.fill(rnd, b, rubbish(rnd, b, a.texts()...), 1+rnd.Intn(9))
		want := b.without(a.keys)
		if !slices.Equal(rising(supplied), want) {
			w.fails("P25.7: %d are supplied, not %d", len(supplied), len(want))
		}
		w.holds("P25.7", b, now)
		shared, own = shared+len(b.keys)-len(want), own+len(want)
	}
	if shared < rounds(600) || own < rounds(600) {
		t.Errorf("%d shared ones, %d others: too few to tell", shared, own)
	}
}

// One's own trie in have, and the empty one's nodes.
func TestTheSameTrieInHave(t *testing.T) {
	rnd := rand.New(rand.NewSource(258))
	for range rounds(100) {
		book := newBook(t, 256)
		entries := someMap(rnd, 40)
		m := trieOf(t, book, entries)
		beginWith(t, 256, book, m.root, shuffled(rnd, m.texts())...).holds("P25.7: its own", m, entries)
		w := beginWith(t, 256, book, m.root)
		_, supplied := w.fill(rnd, m, nil, 3)
		if len(supplied) != len(m.keys) {
			w.fails("P25.7: %d are supplied, not %d", len(supplied), len(m.keys))
		}
		w.holds("P25.7: none", m, entries)
	}
}

// Peers that send what they like, in whatever order, until it is done: it is the root's trie.
func TestWhateverPeersSend(t *testing.T) {
	t.Parallel()
	rnd := rand.New(rand.NewSource(259))
	answers := map[api.Errno]int{}
	for range rounds(80) {
		book := newBook(t, 256)
		entries := someMap(rnd, 30)
		m, other := trieOf(t, book, entries), trieOf(t, book, changed(rnd, entries))
		pool := slices.Concat(m.texts(), rubbish(rnd, m), other.texts())
		w := beginWith(t, 256, book, m.root, some(rnd, pool), some(rnd, pool), some(rnd, pool))
		for !w.f.Done() {
			answers[w.supply(some(rnd, pool))]++
		}
		w.holds("W7", m, entries)
		for range 9 {
			if e := w.supply(some(rnd, pool)); e != api.ErrUnwanted && e != api.ErrInput {
				w.fails("P25.3: a fetch that is done answers %d", e)
			}
		}
		w.holds("W7: whatever comes behind it", m, entries)
	}
	for _, e := range []api.Errno{api.OK, api.ErrInput, api.ErrUnwanted} {
		if answers[e] < rounds(200) {
			t.Errorf("P25.3: %d answers of %d", answers[e], e)
		}
	}
}

// A great trie, which fills another fetch as its source then.
func TestAGreatTrie(t *testing.T) {
	rnd := rand.New(rand.NewSource(260))
	entries := map[string]string{}
	for range rounds(5000) {
		entries[someKey(rnd, 1)] = someValue(rnd)
	}
	book := newBook(t, 256)
	m := trieOf(t, book, entries)
	f, _ := fetch.New(book, m.root)
	supplied := 0
	for !f.Done() {
		for _, h := range f.Wants(97) {
			supplied++
			if e := f.Supply([]byte(m.nodes[h])); e != api.OK {
				t.Fatalf("P25.3: %d", e)
			}
		}
	}
	if supplied != len(m.keys) || f.Len() != supplied || supplied < len(entries)/2 {
		t.Errorf("P25.6: %d are supplied of %d", supplied, len(m.keys))
	}
	for k, v := range entries {
		if got, found, e := find.Get(f, book, m.root, []byte(k)); string(got) != v || !found || e != api.OK {
			t.Fatalf("P25.5: Get(%x) answers %.12q, %v, %d", k, got, found, e)
		}
	}
	if marked, e := sweep.Mark(f, book, m.root); e != api.OK || !slices.Equal(marked, m.keys) {
		t.Errorf("P25.5: %d nodes, %d", len(marked), e)
	}
	second, _ := fetch.New(book, m.root)
	for !second.Done() {
		for _, h := range second.Wants(1 << 20) {
			b, e := f.Node(h)
			if e != api.OK || second.Supply(b) != api.OK {
				t.Fatalf("P25.5: a fetch that is done lacks a node: %d", e)
			}
		}
	}
	if second.Len() != f.Len() {
		t.Errorf("P25.6: %d, not %d", second.Len(), f.Len())
	}
}

// On its way a fetch answers as a source as far as it has been filled: the right value, or ErrNode.
func TestAsASourceOnItsWay(t *testing.T) {
	rnd := rand.New(rand.NewSource(261))
	told := map[api.Errno]int{}
	for range rounds(60) {
		book := newBook(t, 256)
		entries := someMap(rnd, 30)
		m := trieOf(t, book, entries)
		w := beginWith(t, 256, book, m.root, some(rnd, append(m.texts(), "rubbish")))
		for !w.f.Done() {
			for _, k := range slices.Sorted(maps.Keys(entries)) {
				got, found, e := find.Get(w.f, book, m.root, []byte(k))
				if e != api.ErrNode && (e != api.OK || !found || string(got) != entries[k]) {
					w.fails("P25.4: Get(%x) answers %.12q, %v, %d", k, got, found, e)
				}
				told[e]++
			}
			w.supply(m.nodes[some(rnd, w.f.Wants(9))])
		}
	}
	if told[api.OK] < rounds(900) || told[api.ErrNode] < rounds(900) {
		t.Errorf("too few to tell: %v", told)
	}
}
