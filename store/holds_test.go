package store_test

import (
	"fmt"
	"math/rand"
	"os"
	"runtime/debug"
	"slices"
	"strings"
	"testing"

	"cairn/api"
	"cairn/extract"
	"cairn/media"
	"cairn/node"
	"cairn/shape"
	"cairn/span"
	"cairn/verify"
)

// The tests make many small rigs: to collect them less often is most of the time that they take.
func TestMain(m *testing.M) {
	debug.SetGCPercent(400)
	os.Exit(m.Run())
}

// some tells one of some things.
func some[T any](rnd *rand.Rand, things []T) T { return things[rnd.Intn(len(things))] }

// someKeys tells a few keys: some are short and dense, some long, some begin as others do.
func someKeys(rnd *rand.Rand) []string {
	keys := []string{"", "\x11\x11", "\x11\x12", "\x22"}
	for range 3 + rnd.Intn(12) {
		var b []byte
		switch rnd.Intn(4) {
		case 0:
			for range rnd.Intn(4) {
				b = append(b, some(rnd, []byte{0x00, 0x01, 0x10, 0x11, 0x12, 0xff}))
			}
		case 1:
			b = make([]byte, rnd.Intn(33))
			rnd.Read(b)
		case 2:
			b = []byte(strings.Repeat("\x5a", 32))
			b[rnd.Intn(32)] ^= byte(1 << rnd.Intn(8))
		default:
			b = []byte(strings.Repeat("\x77", rnd.Intn(33)))
		}
		keys = append(keys, string(b))
	}
	return keys
}

func someValue(rnd *rand.Rand) string {
	size := some(rnd, []int{1, 2, 20, 32, 33, 60, 256, 1 + rnd.Intn(256)})
	return strings.Repeat(string([]byte{byte(1 + rnd.Intn(255))}), size)
}

func someBounds(rnd *rand.Rand, keys []string) api.Bounds {
	if rnd.Intn(3) == 0 {
		return open(some(rnd, keys))
	}
	return from(some(rnd, keys), some(rnd, keys))
}

// nodesOf tells the blobs of a map's trie, each hash once.
func (r *rig) nodesOf(entries map[string]string) []api.Blob {
	r.t.Helper()
	blobs, e := shape.Nodes(r.plain, listed(entries))
	if e != api.OK {
		r.t.Fatalf("14.6: %d", e)
	}
	return slices.CompactFunc(blobs, func(a, b api.Blob) bool { return a.Key == b.Key })
}

// someRepair tells a repair: of what waits for it, as a rule.
func (r *rig) someRepair(rnd *rand.Rand, who int) ask {
	r.t.Helper()
	if rnd.Intn(5) == 0 {
		return repair(some(rnd, []string{"", "\x80", leaf("12", long), leaf("", "v"), strings.Repeat("\xff", 1100)}))
	}
	waits := r.stores[who].Report().Quarantine
	blobs := r.nodesOf(r.truth.now.entries)
	for _, b := range blobs {
		if slices.Contains(waits, b.Key) {
			return repair(string(b.Data))
		}
	}
	if len(blobs) == 0 {
		return repair("")
	}
	return repair(string(some(rnd, blobs).Data))
}

// someAsk tells a call of chance.
func (r *rig) someAsk(rnd *rand.Rand, who int, keys []string) ask {
	r.t.Helper()
	key := some(rnd, keys)
	switch rnd.Intn(32) {
	case 0, 1, 2, 3, 4, 5, 6, 7:
		return lays(key, someValue(rnd))
	case 8, 9, 10:
		return deletes(key)
	case 11, 12, 13, 14, 15, 16:
		return commit()
	case 17, 18, 19:
		return get(key)
	case 20, 21:
		return scan(someBounds(rnd, keys), rnd.Intn(9))
	case 22:
		return scan(all, 4096)
	case 23:
		return prove(key)
	case 24:
		return proveSpan(someBounds(rnd, keys))
	case 25:
		return root()
	case 26:
		return history()
	case 27, 28:
		return scrubs(1 + rnd.Intn(9))
	case 29:
		return sweeps()
	case 30:
		return r.someRepair(rnd, who)
	}
	return some(rnd, append(wrong(), abort(), report(), abort()))
}

// someAside does something to the device past the stores: what it keeps is lost or altered.
func (r *rig) someAside(rnd *rand.Rand) {
	blobs := r.d.Media().Blobs
	if len(blobs) == 0 {
		return
	}
	b := some(rnd, blobs)
	junk := some(rnd, [][]byte{nil, []byte("junk"), b.Data[:len(b.Data)/2], []byte(leaf("12", long))})
	switch rnd.Intn(5) {
	case 0:
		r.aside("a blob is lost", func(d *media.Device) { d.Delete(b.Key) })
	case 1:
		r.aside("a blob is altered", func(d *media.Device) { d.Put(b.Key, junk) })
	case 2:
		r.aside("a stray", func(d *media.Device) { d.Put(api.Hash{byte(len(blobs)), 77}, junk) })
	case 3:
		r.aside("rubbish behind the log", func(d *media.Device) { d.Append(junk) })
	default:
		n := rnd.Intn(1 + len(r.d.Media().Log))
		r.aside("the log is cut", func(d *media.Device) { d.Cut(n) })
	}
}

// plan is how a script goes: of ten steps so many lay choices of these kinds, and of fifty so many do something past the stores. If
// sessions end with the device, none goes on that was there ahead of a crash.
type plan struct {
	steps, often, asides int
	kinds                []int
	end                  bool
}

// wander makes calls of chance, at the store that was opened last as a rule.
func (r *rig) wander(rnd *rand.Rand, p plan, keys []string) {
	r.t.Helper()
	gone := 0
	for range p.steps {
		if rnd.Intn(10) < p.often {
			choices := honest(rnd.Intn(12))
			for range 1 + rnd.Intn(2) {
				choices = append(choices, api.Choice{Kind: some(rnd, p.kinds), N: rnd.Intn(1 + rnd.Intn(300)), M: rnd.Intn(300)})
			}
			r.choose(choices...)
		}
		if rnd.Intn(50) < p.asides {
			r.someAside(rnd)
		}
		if r.d.Down() && p.end {
			gone = len(r.stores)
		}
		if r.d.Down() && rnd.Intn(3) > 0 {
			r.up()
		}
		if len(r.stores) == gone || rnd.Intn(25) == 0 || r.failed(len(r.stores)-1) && rnd.Intn(3) > 0 {
			r.open(some(rnd, []int{0, 1, 4, 256}))
			continue
		}
		who := len(r.stores) - 1
		if rnd.Intn(12) == 0 {
			who = gone + rnd.Intn(len(r.stores)-gone)
		}
		r.do(who, r.someAsk(rnd, who, keys))
	}
}

func allKinds() []int {
	return []int{api.Honest, api.Alter, api.Drop, api.Replay, api.Rollback, api.Torn, api.Crash, api.After}
}

func crashes() []int { return []int{api.Honest, api.Torn, api.Crash, api.After} }

// tally is how often calls have answered so over some truths.
type tally map[string]int

func (y tally) add(x *truth) {
	for what, n := range x.seen {
		y[what] += n
	}
}

func (y tally) wants(t *testing.T, least int, whats ...string) {
	t.Helper()
	for _, what := range whats {
		if y[what] < least {
			t.Errorf("%q was seen %d times", what, y[what])
		}
	}
}

// Scripts of stores at one device over any choices, over books of many and of few bits, held against the model, and, as long as the
// book is sound, against the map: W1, and W3 over any choices.
func TestScripts(t *testing.T) {
	seen := tally{}
	for seed := range rounds(4000) {
		rnd := rand.New(rand.NewSource(int64(seed)))
		bits := []int{256, 256, 256, 24, 12, 10, 8}[seed%7]
		codeBits := []int{256, 256, 40, 12, 8}[seed%5]
		r := lay(t, some(rnd, []int{4000, 64, 20, 12, 6}), some(rnd, []int{300, 600, 1500, 60000}), bits, codeBits)
		p := plan{steps: 60, often: rnd.Intn(5), kinds: allKinds(), end: rnd.Intn(2) == 0}
		if rnd.Intn(3) == 0 {
			p.asides = 3
		}
		r.wander(rnd, p, someKeys(rnd))
		seen.add(r.truth)
		if r.book.Sound() {
			seen["sound books"]++
		}
	}
	seen.wants(t, rounds(100), "sound books", "not sound", "the map", "a commit that went down is there", "a commit that went down is not there",
		"Get 0", "Get 3", "Get 5", "Scan 0", "Scan 2", "Scan 5", "Prove 0", "Prove 5", "ProveSpan 0", "ProveSpan 5", "Put 0", "Put 2", "Delete 0", "Delete 2",
		"Commit 0", "Commit 3", "Commit 4", "Commit 5", "Commit 6", "Commit 200", "Commit 7", "Root 0", "History 0", "Repair 0", "Repair 70", "Repair 220",
		"Scrub 0", "Scrub 2", "Scrub 3", "Sweep 0", "Sweep 5", "Abort 0", "Report 0")
	seen.wants(t, rounds(20), "History 200", "Repair 3", "Sweep 3", "Put 7", "Get 200", "Root 3", "Root 200")
}

// Scripts of two stores at one device, one opened behind the other again and again, and both asked in turn.
func TestScriptsOfTwoStores(t *testing.T) {
	seen := tally{}
	for seed := range rounds(400) {
		rnd := rand.New(rand.NewSource(int64(1000 + seed)))
		r := lay(t, some(rnd, []int{64, 15}), some(rnd, []int{700, 60000}), []int{256, 256, 11}[seed%3], []int{256, 9}[seed%2])
		keys := someKeys(rnd)
		for range 4 {
			for range 2 {
				r.up().open(some(rnd, []int{0, 3, 256}))
			}
			for range 12 {
				if rnd.Intn(6) == 0 {
					r.choose(honest(rnd.Intn(5), api.Choice{Kind: rnd.Intn(api.Choices), N: rnd.Intn(99), M: rnd.Intn(99)})...)
				}
				if len(r.stores) > 1 {
					who := len(r.stores) - 1 - rnd.Intn(2)
					r.do(who, r.someAsk(rnd, who, keys))
				}
			}
		}
		seen.add(r.truth)
	}
	seen.wants(t, rounds(50), "Commit 0", "Commit 200", "Get 200", "Get 7", "Commit 7", "Put 7", "the map")
}

// W2: over an honest device, one store behind the other: no error but ErrFull of a commit, just where the tries ahead of it and behind
// it have together more blobs than there are slots; then nothing has changed.
func TestHonest(t *testing.T) {
	seen := tally{}
	for seed := range rounds(500) {
		rnd := rand.New(rand.NewSource(int64(seed)))
		slots := 1 + rnd.Intn(30)
		r := lay(t, slots, 3*16391, 256, 256)
		keys := someKeys(rnd)
		who := r.opens(some(rnd, []int{0, 1, 7, 256}))
		for range 60 {
			if rnd.Intn(12) == 0 {
				who = r.opens(some(rnd, []int{0, 1, 7, 256}))
			}
			a := r.someAsk(rnd, who, keys)
			want := api.OK
			switch {
			case a.commits:
				was := r.truth.now
				next := r.truth.behind(r.models[who].batch)
				both := len(union(r.nodesOf(was.entries), r.nodesOf(next.entries)))
				answer, e := r.do(who, a)
				if (e == api.ErrFull) != (both > slots) || e != api.OK && e != api.ErrFull || e == api.OK && answer != next.root {
					r.fails("W2: Commit answers %d: %d blobs in %d slots", e, both, slots)
				}
				if e == api.ErrFull {
					r.wants("23.14", who, root(), was.root, "reg")
					r.does(who, scan(all, 4096))
					if rnd.Intn(2) == 0 {
						r.does(who, abort())
					}
				}
				continue
			case strings.HasPrefix(a.name, "Repair"):
				_, want = r.do(who, a)
				if want != api.ErrShape && want != api.ErrUnwanted {
					r.fails("W2: Repair answers %d", want)
				}
				continue
			case slices.ContainsFunc(wrong(), func(b ask) bool { return b.name == a.name }):
				want = api.ErrInput
			case r.stores[who].Report().Staged == api.MaxBatch && (strings.HasPrefix(a.name, "Put") || strings.HasPrefix(a.name, "Delete")):
				want = api.ErrBatch
			}
			answer, e := r.do(who, a)
			if e != want {
				r.fails("W2: %s answers %d, not %d", a.name, e, want)
			}
			if pass, is := answer.(api.Pass); is && pass.Bad > 0 {
				r.fails("W2: %s finds %d bad", a.name, pass.Bad)
			}
		}
		r.is("W2", who, state{count: r.truth.count, seq: r.truth.now.seq, staged: len(r.models[who].batch), cached: r.stores[who].Report().Cached}, r.truth.now.root, false)
		seen.add(r.truth)
	}
	seen.wants(t, rounds(400), "Commit 0", "Commit 6", "the map", "Scrub 0", "Sweep 0")
}

// union tells the keys of some blobs, each once.
func union(blobs ...[]api.Blob) []api.Hash {
	var keys []api.Hash
	for _, b := range slices.Concat(blobs...) {
		keys = append(keys, b.Key)
	}
	return rising(keys)
}

// W2: batches at all limits, in a log with room for three of their records.
func TestGreatestBatches(t *testing.T) {
	r := lay(t, api.MaxSlots, 3*16391, 256, 256)
	r.opens(256)
	for i := range 9 {
		for j := range api.MaxBatch {
			r.does(0, lays(fmt.Sprintf("%032d", 1000*i+j%(32-i)), strings.Repeat(string([]byte{byte(1 + i*32 + j)}), 256)))
		}
		r.does(0, commit())
		if i%3 == 2 {
			r.does(0, scan(all, 4096))
		}
	}
	r.does(r.opens(0), scan(all, 4096))
}

// The root hangs on the map alone: any puts and deletes that lead to it, in any batches, by any stores, lead to one root.
func TestRootHangsOnTheMapAlone(t *testing.T) {
	for seed := range rounds(60) {
		rnd := rand.New(rand.NewSource(int64(seed)))
		keys := someKeys(rnd)
		want := map[string]string{}
		for _, key := range keys[:1+rnd.Intn(len(keys))] {
			want[key] = someValue(rnd)
		}
		var roots []api.Hash
		for range 3 {
			r := lay(t, 400, 60000, 256, 256)
			who := r.opens(5)
			for range rnd.Intn(9) {
				r.does(who, some(rnd, []ask{lays(some(rnd, keys), someValue(rnd)), deletes(some(rnd, keys)), commit()}))
			}
			for _, i := range rnd.Perm(len(keys)) {
				if value, there := want[keys[i]]; there {
					r.does(who, lays(keys[i], value))
				} else {
					r.does(who, deletes(keys[i]))
				}
				if rnd.Intn(4) == 0 {
					r.does(who, commit())
				}
				if rnd.Intn(9) == 0 && r.stores[who].Report().Staged == 0 {
					who = r.opens(0)
				}
			}
			r.does(who, commit())
			roots = append(roots, r.stores[who].Report().Head.Root)
		}
		if roots[0] != roots[1] || roots[1] != roots[2] {
			t.Errorf("W2: the roots %.4x of one map", roots)
		}
	}
}

// W4: every proof that a store answers is accepted for its root; turned in any byte, for another root or another trie it is not.
func TestProofsAreBelieved(t *testing.T) {
	g := layGarden(t, 64, 60000, 8)
	s, top := g.stores[0], g.hashes["top"]
	for key, value := range map[string]string{"": "e", "\x11\x12": long + "B", "\x22\x33": long + "D", "\x22\x34": "", "\x99": ""} {
		p, e := s.Prove([]byte(key))
		v, found, f := verify.Verify(g.plain, top, []byte(key), p)
		if e != api.OK || f != api.OK || string(v) != value || found != (value != "") {
			t.Errorf("W4: %x: %q, %v, %d, %d", key, v, found, e, f)
		}
		if _, _, e := verify.Verify(g.plain, hashOf(256, g.nodes["fork"]), []byte(key), p); e != api.ErrProof {
			t.Errorf("W4: another root: %d", e)
		}
		for i := range p {
			p[i] ^= 1
			if v, _, e := verify.Verify(g.plain, top, []byte(key), p); e != api.ErrProof {
				t.Errorf("W4: %x, byte %d: %q, %d", key, i, v, e)
			}
			p[i] ^= 1
		}
	}
	for _, b := range []api.Bounds{all, open("\x21"), from("\x11\x12", "\x22"), from("\x30", "\x40")} {
		p, e := s.ProveSpan(b)
		l, f := span.Verify(g.plain, top, b, p)
		if e != api.OK || f != api.OK || shown(l) != shown(within(planted(), b)) {
			t.Errorf("W4: %s: %d, %d", boundsText(b), e, f)
		}
		for i := range p {
			p[i] ^= 1
			if _, e := span.Verify(g.plain, top, b, p); e != api.ErrProof {
				t.Errorf("W4: %s, byte %d: %d", boundsText(b), i, e)
			}
			p[i] ^= 1
		}
	}
}

// Where an answer is wrong, the book is not sound: the device tells another leaf with the same few bits. The proof of it is accepted, and
// the two strings are found in it and in the map's nodes.
func TestWrongAnswersShowInTheBook(t *testing.T) {
	one, two := clashing()
	r := lay(t, 9, 60000, 8, 256)
	r.opens(0)
	r.does(0, lays("k", one), commit())
	top := r.truth.now.root
	r.aside("another leaf", func(d *media.Device) { d.Put(top, []byte(leaf("6b", two))) })
	if !r.book.Sound() {
		t.Fatal("P4.6: the book is not sound")
	}
	r.wants("W1", 0, get("k"), got{two, true}, "reg get")
	p, e := r.stores[0].Prove([]byte("k"))
	if v, found, f := verify.Verify(r.plain, top, []byte("k"), p); e != api.OK || f != api.OK || !found || string(v) != two || r.book.Sound() {
		t.Errorf("W1: %q, %d, %d, sound %v", v, e, f, r.book.Sound())
	}
	pair, e := extract.Key(r.plain, [][]byte{[]byte(leaf("6b", one))}, top, []byte("k"), p)
	if e != api.OK || string(pair.A) != leaf("6b", one) || string(pair.B) != leaf("6b", two) {
		t.Errorf("W4: %x, %d", pair, e)
	}
}

// levels tells how many nodes that stand by their hashes lie at most between a root and the lowest ones, both with them.
func (r *rig) levels(w world) int {
	below := map[api.Hash][]api.Hash{}
	for _, b := range r.nodesOf(w.entries) {
		below[b.Key], _ = node.Hashes(b.Data)
	}
	n := 0
	level := []api.Hash{w.root}
	for ; len(below) > 0 && len(level) > 0; n++ {
		var next []api.Hash
		for _, h := range level {
			next = append(next, below[h]...)
		}
		level = rising(next)
	}
	return n
}

// W5: from a device that has lost or altered any nodes, but is honest from then on: passes and repairs in turn come to a clean pass,
// in as many rounds as the trie is deep and one more at most; every key has what it had, and the root has stayed.
func TestRepairRounds(t *testing.T) {
	deepest := 0
	for seed := range rounds(300) {
		rnd := rand.New(rand.NewSource(int64(seed)))
		r := lay(t, 400, 60000, 256, 256)
		who := r.opens(some(rnd, []int{0, 2, 256}))
		for _, key := range someKeys(rnd) {
			r.does(who, lays(key, someValue(rnd)))
			if rnd.Intn(6) == 0 {
				r.does(who, commit())
			}
		}
		r.does(who, commit())
		if rnd.Intn(2) == 0 {
			who = r.opens(some(rnd, []int{0, 2, 256}))
		}
		blobs := r.nodesOf(r.truth.now.entries)
		often := rnd.Intn(5)
		for _, b := range blobs {
			switch how := rnd.Intn(2 + often); how {
			case 0:
				r.aside("a node is lost", func(d *media.Device) { d.Delete(b.Key) })
			case 1:
				r.aside("a node is altered", func(d *media.Device) { d.Put(b.Key, b.Data[1:]) })
			}
		}
		top := r.truth.now.root
		deep, passes := r.levels(r.truth.now), 0
		for clean := false; !clean; passes++ {
			if passes > deep {
				r.fails("W5: %d passes over %d levels", passes, deep)
			}
			pass := api.Pass{}
			for !pass.Done {
				a, _ := r.do(who, scrubs(1+rnd.Intn(9)))
				pass = a.(api.Pass)
			}
			clean = pass.Bad == 0
			if clean && pass.Seen != len(blobs) {
				r.fails("W5: a clean pass has seen %d of %d nodes", pass.Seen, len(blobs))
			}
			for _, h := range r.stores[who].Report().Quarantine {
				at := slices.IndexFunc(blobs, func(b api.Blob) bool { return b.Key == h })
				r.does(who, repair(string(blobs[at].Data)))
			}
			r.wants("W5", who, root(), top, "reg")
		}
		for key := range r.truth.now.entries {
			r.does(who, get(key))
		}
		r.does(who, scan(all, 4096), sweeps())
		deepest = max(deepest, deep)
	}
	if deepest < 4 {
		t.Errorf("%d levels at most", deepest)
	}
}
