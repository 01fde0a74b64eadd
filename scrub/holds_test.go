package scrub_test

import (
	"math/rand"
	"slices"
	"testing"

	"cairn/api"
	"cairn/find"
	"cairn/hstore"
	"cairn/media"
	"cairn/node"
	"cairn/sweep"
)

// suspect brings hashes into the quarantine, whatever stands under them: whichever is read right then leaves it.
func (r *rig) suspect(hashes ...api.Hash) {
	r.t.Helper()
	for _, h := range hashes {
		r.choose(choice(api.Drop, 0))
		r.fresh(h)
	}
}

// Over an honest device that has all nodes of a trie a pass looks at just the hashes that sweep.Mark tells, each once, and none is bad.
func TestEachOnce(t *testing.T) {
	rnd := rand.New(rand.NewSource(225))
	most := 0
	for range rounds(400) {
		r := lay(t, 400, []int{256, 256, 160, 64}[rnd.Intn(4)], []int{0, 1, 5, 256}[rnd.Intn(4)])
		entries := someMap(rnd, 40)
		r.plant(entries)
		m := r.plant(changed(rnd, entries))
		marked, e := sweep.Mark(r.s, r.book, m.root)
		sweep.Mark(r.st, r.bk, m.root)
		if e != api.OK || !slices.Equal(marked, m.keys) {
			t.Fatalf("21.5: %d hashes, %d", len(marked), e)
		}
		most = max(most, len(marked))
		for _, n := range []int{1, 1 + rnd.Intn(6), 4096} {
			r.suspect(append(r.blobs(), key(1))...)
			others := lack(r.s.Quarantine(), marked)
			p := r.begin(m.root)
			before, steps := len(r.d.Accesses()), 0
			for ; !p.x.Pass().Done; steps++ {
				p.step(n)
			}
			if got := p.x.Pass(); got != (api.Pass{Seen: len(marked), Done: true}) || len(r.d.Accesses())-before != len(marked) {
				r.fails("22.5: %+v with %d accesses, not %d", got, len(r.d.Accesses())-before, len(marked))
			}
			if want := (len(marked) + n - 1) / n; steps > want {
				r.fails("22.5: %d steps of %d, not %d", steps, n, want)
			}
			if got := r.s.Quarantine(); !slices.Equal(got, others) {
				r.fails("22.5: other hashes than Mark tells were looked at")
			}
		}
	}
	if most < 20 {
		t.Errorf("the greatest trie has %d nodes by their hashes", most)
	}
}

// A great map: as many nodes as a device can have, nearly.
func TestAGreatMap(t *testing.T) {
	rnd := rand.New(rand.NewSource(226))
	entries := map[string]string{}
	for range 3200 {
		entries[someString(rnd, 1+rnd.Intn(4))] = someValue(rnd)
	}
	m := trieOf(t, 256, entries)
	r := layOver(t, api.Media{Slots: api.MaxSlots, Blobs: m.blobs}, 256, 0)
	p := r.begin(m.root)
	got, e := p.step(1000)
	if e != api.OK || got != (api.Pass{Seen: 1000}) {
		t.Errorf("22.2: %+v, %d", got, e)
	}
	if got, e = p.step(4096); e != api.OK || got != (api.Pass{Seen: len(m.keys), Done: true}) || len(m.keys) < 2000 {
		t.Errorf("22.5: %+v, %d, not %d", got, e, len(m.keys))
	}
}

// spoil loses and alters some nodes of a trie.
func (r *rig) spoil(rnd *rand.Rand, m trie, often int) {
	for _, b := range m.blobs {
		if rnd.Intn(often) > 0 {
			continue
		}
		switch rnd.Intn(4) {
		case 0:
			r.put(b.Key, string(b.Data[:rnd.Intn(len(b.Data))]))
		case 1:
			turned := slices.Clone(b.Data)
			turned[rnd.Intn(len(turned))] ^= byte(1 + rnd.Intn(255))
			r.put(b.Key, string(turned))
		case 2:
			r.put(b.Key, string(m.blobs[0].Data)+"?")
		default:
			r.lose(b.Key)
		}
	}
}

// Steps of a and then b come to where a step of a + b comes, in whatever state the trie is.
func TestInPieces(t *testing.T) {
	rnd := rand.New(rand.NewSource(227))
	for range rounds(400) {
		r := lay(t, 400, 256, []int{0, 4}[rnd.Intn(2)])
		m := r.plant(someMap(rnd, 40))
		r.spoil(rnd, m, 2+rnd.Intn(20))
		for range 4 {
			a, b := 1+rnd.Intn(len(m.keys)+2), 1+rnd.Intn(len(m.keys)+2)
			if rnd.Intn(5) == 0 {
				a = 1 + rnd.Intn(4095)
				b = 4096 - a
			}
			apart, together := r.begin(m.root), r.begin(m.root)
			apart.step(a)
			got, e := apart.step(b)
			want, f := together.step(a + b)
			if got != want || e != api.OK || f != api.OK {
				r.fails("22.6: %d and %d: %+v, %d, not %+v, %d", a, b, got, e, want, f)
			}
			for !together.x.Pass().Done || !apart.x.Pass().Done {
				got, _ := apart.step(1)
				if want, _ := together.step(1); got != want {
					r.fails("22.6: %d and %d, and further on: %+v, not %+v", a, b, got, want)
				}
			}
		}
	}
}

// levels tells how many nodes that stand by their hashes lie at most between the root and its lowest ones, both with them: by the shortest way to each.
func levels(m trie) int {
	below := map[api.Hash][]api.Hash{}
	for _, b := range m.blobs {
		below[b.Key], _ = node.Hashes(b.Data)
	}
	met, level, n := []api.Hash{}, []api.Hash{m.root}, 0
	for len(below) > 0 && len(level) > 0 {
		n++
		met = append(met, level...)
		var next []api.Hash
		for _, h := range level {
			next = append(next, lack(below[h], met)...)
		}
		level = slices.Compact(rising(next))
	}
	return n
}

// data tells the true bytes of a hash.
func (m trie) data(h api.Hash) string {
	return string(m.blobs[slices.IndexFunc(m.blobs, func(b api.Blob) bool { return b.Key == h })].Data)
}

// holds looks that every key has by the rig's store what the map says.
func (r *rig) holds(promise string, root api.Hash, entries map[string]string) {
	r.t.Helper()
	for k, v := range entries {
		got, found, e := find.Get(r.s, r.book, root, []byte(k))
		find.Get(r.st, r.bk, root, []byte(k))
		if e != api.OK || !found || string(got) != v {
			r.fails("%s: Get(%x) answers %q, %v, %d", promise, k, got, found, e)
		}
	}
}

// From a device that has lost or altered any nodes: passes and repairs in turn come down to a clean pass, in as many rounds as the trie is deep and one more, at most.
func TestRepairRounds(t *testing.T) {
	rnd := rand.New(rand.NewSource(228))
	deepest, worst := 0, 0
	for round := range rounds(400) {
		entries := someMap(rnd, 40)
		r := lay(t, 400, 256, []int{0, 3, 256}[rnd.Intn(3)])
		m := r.plant(entries)
		if len(m.keys) == 0 {
			continue
		}
		all := round%3 == 0
		if all {
			for _, h := range m.keys {
				r.lose(h)
			}
		} else {
			r.spoil(rnd, m, 1+rnd.Intn(5))
		}
		deep, passes := levels(m), 0
		for clean := false; !clean; {
			passes++
			p := r.begin(m.root)
			got := p.through(1 + rnd.Intn(9))
			clean = got.Bad == 0
			if bad := r.s.Quarantine(); len(bad) != got.Bad || !slices.Equal(bad, rising(p.m.bad)) {
				r.fails("22.7: %d bad, %d in quarantine", got.Bad, len(bad))
			}
			if clean && got.Seen != len(m.keys) {
				r.fails("W5: %d of %d nodes have been seen", got.Seen, len(m.keys))
			}
			for _, h := range r.s.Quarantine() {
				if e := r.repair(m.data(h)); e != api.OK {
					r.fails("22.7: Repair answers %d", e)
				}
			}
			if passes > deep+1 {
				r.fails("22.7: %d passes over %d levels", passes, deep)
			}
		}
		if all && passes != deep+1 {
			r.fails("22.7: all is lost, and it takes %d passes, not %d", passes, deep+1)
		}
		deepest, worst = max(deepest, deep), max(worst, passes)
		r.holds("W5", m.root, entries)
		r.has("W5: the trie, and nothing else", m.keys...)
		if got, e := sweep.Sweep(r.d, r.s, r.book, nil, m.root); e != api.OK || got != (api.Swept{Live: len(m.keys)}) {
			r.fails("W5: Sweep answers %+v, %d", got, e)
		}
	}
	if deepest < 4 || worst < 5 {
		t.Errorf("%d levels at most, %d passes", deepest, worst)
	}
}

// kept tells what the keys of a map have by a copy of the device, read honestly by a book of its own: the value, or nothing for an error.
func (r *rig) kept(root api.Hash, keys []string) []string {
	r.t.Helper()
	d, e := media.Load(r.d.Media())
	book := newBook(r.t, r.bits)
	s, f := hstore.New(d, book, 256)
	if e != api.OK || f != api.OK {
		r.t.Fatalf("a copy: %d, %d", e, f)
	}
	var out []string
	for _, k := range keys {
		v, found, e := find.Get(s, book, root, []byte(k))
		if e == api.OK && !found {
			r.fails("22.8: %x has nothing", k)
		}
		out = append(out, string(v))
	}
	return out
}

// No call changes what any key has: New, Step and Pass leave every blob as it is, Repair all but the one under its own hash. What
// a key has is its value, ahead of the call and behind it, or it can't be told; and an honest device loses none by a repair.
func TestNoCallChangesWhatAKeyHas(t *testing.T) {
	rnd := rand.New(rand.NewSource(229))
	mended := 0
	for range rounds(150) {
		r := lay(t, 400, 256, []int{0, 3, 256}[rnd.Intn(3)])
		entries := someMap(rnd, 12)
		m := r.plant(entries)
		if len(m.keys) == 0 {
			continue
		}
		r.spoil(rnd, m, 3)
		var keys []string
		for k := range entries {
			keys = append(keys, k)
		}
		slices.Sort(keys)
		p := r.begin(m.root)
		was, had := r.d.Media(), r.kept(m.root, keys)
		for range 30 {
			honestly := rnd.Intn(2) == 0
			r.choose()
			if !honestly {
				r.choose(api.Choice{Kind: []int{api.Alter, api.Drop, api.Replay, api.Torn, api.Crash, api.After}[rnd.Intn(6)], N: rnd.Intn(99), M: rnd.Intn(99)})
			}
			own, at := api.Hash{}, rnd.Intn(4)
			switch b := m.blobs[rnd.Intn(len(m.blobs))]; at {
			case 0:
				p = r.begin(m.root)
			case 1, 2:
				p.step(1 + rnd.Intn(9))
			default:
				r.repair(string(b.Data))
				own = b.Key
			}
			r.up()
			now, has := r.d.Media(), r.kept(m.root, keys)
			without := func(blobs []api.Blob) []api.Blob {
				return slices.DeleteFunc(slices.Clone(blobs), func(x api.Blob) bool { return at == 3 && x.Key == own })
			}
			before, behind := was, now
			before.Blobs, behind.Blobs = without(was.Blobs), without(now.Blobs)
			if !sameMedia(before, behind) {
				r.fails("22.8: a call has changed what it may not")
			}
			for i, k := range keys {
				if has[i] != "" && has[i] != entries[k] || honestly && had[i] != "" && has[i] == "" {
					r.fails("22.8: %x had %q, and has %q", k, had[i], has[i])
				}
				if had[i] == "" && has[i] != "" {
					mended++
				}
			}
			was, had = now, has
		}
	}
	if mended < rounds(50) {
		t.Errorf("%d keys were mended", mended)
	}
}

// some tells one of some things.
func some[T any](rnd *rand.Rand, things []T) T { return things[rnd.Intn(len(things))] }

// someChoices tells choices of which most are honest.
func someChoices(rnd *rand.Rand) []api.Choice {
	var out []api.Choice
	often := 2 + rnd.Intn(20)
	for range rnd.Intn(40) {
		kind := api.Honest
		if rnd.Intn(often) == 0 {
			kind = rnd.Intn(api.Choices)
		}
		out = append(out, api.Choice{Kind: kind, N: rnd.Intn(300), M: rnd.Intn(300)})
	}
	return out
}

// Scripts of any calls over any choices, over books of many and of few bits, against the model.
func TestScripts(t *testing.T) {
	rnd := rand.New(rand.NewSource(220))
	steps, repairs, bad := map[api.Errno]int{}, map[api.Errno]int{}, 0
	for round := range rounds(1500) {
		bits := []int{256, 256, 40, 16, 12, 9, 8}[round%7]
		r := lay(t, []int{400, 400, 30, 8}[rnd.Intn(4)], bits, []int{0, 1, 4, 256}[rnd.Intn(4)])
		entries := someMap(rnd, 8)
		roots := []api.Hash{emptyRoot(bits), key(3)}
		known := []api.Hash{emptyRoot(bits), {}, key(3)}
		blobs := []string{"", "\x80", leaf("12", long)}
		tours := []*tour{r.begin(roots[0])}
		for range 40 {
			switch rnd.Intn(12) {
			case 0, 1:
				m := r.plant(entries)
				roots, known = append(roots, m.root), append(append(known, m.keys...), m.root)
				for _, b := range m.blobs {
					blobs = append(blobs, string(b.Data))
				}
				tours = append(tours, r.begin(m.root))
				entries = changed(rnd, entries)
			case 2:
				r.put(some(rnd, known), some(rnd, append(blobs, someString(rnd, rnd.Intn(50)))))
			case 3:
				for range 1 + rnd.Intn(5) {
					r.lose(some(rnd, known))
				}
			case 4:
				for range rnd.Intn(40) {
					r.read(some(rnd, known))
				}
			case 5:
				r.up()
				r.choose()
			case 6:
				r.choose(someChoices(rnd)...)
			case 7:
				tours = append(tours, r.begin(some(rnd, append(known, roots...))))
			case 8:
				for _, h := range r.s.Quarantine() {
					for _, b := range blobs {
						if hashOf(bits, b) == h {
							repairs[r.repair(b)]++
						}
					}
				}
			case 9:
				repairs[r.repair(some(rnd, blobs))]++
			default:
				p := some(rnd, tours)
				got, e := p.step(some(rnd, []int{1, 1, 2, 3, 5, 9, 4096, 0, 4097}))
				steps[e]++
				bad += got.Bad
			}
		}
		for _, p := range tours {
			p.look()
		}
	}
	for _, e := range []api.Errno{api.OK, api.ErrDown, api.ErrInput} {
		if steps[e] < rounds(300) {
			t.Errorf("error %d was seen at %d steps", e, steps[e])
		}
	}
	for _, e := range []api.Errno{api.OK, api.ErrDown, api.ErrShape, api.ErrUnwanted, api.ErrFull} {
		if repairs[e] < rounds(20) {
			t.Errorf("error %d was seen at %d repairs", e, repairs[e])
		}
	}
	if bad < rounds(2000) {
		t.Errorf("%d were bad", bad)
	}
}

// Over any choices a pass of a sound book never tells more than the trie has, and what it found bad though the device is right stays in the quarantine until it is read right.
func TestPassesOverAnyChoices(t *testing.T) {
	rnd := rand.New(rand.NewSource(230))
	for range rounds(300) {
		r := lay(t, 400, 256, 3)
		m := r.plant(someMap(rnd, 30))
		p := r.begin(m.root)
		for !p.x.Pass().Done {
			r.choose(slices.DeleteFunc(someChoices(rnd), func(c api.Choice) bool { return c.Kind == api.Rollback })...)
			p.step(1 + rnd.Intn(20))
			r.up()
		}
		r.choose()
		got := p.x.Pass()
		if got.Seen > len(m.keys) || got.Bad > got.Seen || !slices.Equal(r.s.Quarantine(), rising(p.m.bad)) {
			r.fails("22.5, 22.7: %+v over %d nodes, %d in quarantine", got, len(m.keys), len(r.s.Quarantine()))
		}
		q := r.begin(m.root)
		if got := q.through(7); got != (api.Pass{Seen: len(m.keys), Done: true}) {
			r.fails("22.5: honest again: %+v", got)
		}
		r.state("22.5: honest again", r.s.Cached(), nil)
	}
}
