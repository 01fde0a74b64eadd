package scrub_test

import (
	"math"
	"slices"
	"strings"
	"testing"

	"cairn/api"
	"cairn/digest"
	"cairn/hstore"
	"cairn/scrub"
)

// set lays an encoding on the device, under its hash.
func (r *rig) set(encoding string) api.Hash {
	h := hashOf(r.bits, encoding)
	r.put(h, encoding)
	return h
}

// garden is a device with nodes of all kinds, by their names: "over" leads to "fork" and stands ahead of "mid" in "top"; "left"
// stands in "top" twice, "low" in "mid" and in "fork".
type garden struct {
	*rig
	hashes map[string]api.Hash
	nodes  map[string]string
}

func layGarden(t *testing.T, bits, cache int) *garden {
	t.Helper()
	g := &garden{lay(t, 20, bits, cache), map[string]api.Hash{}, map[string]string{}}
	name := func(name, encoding string) string {
		g.nodes[name] = encoding
		g.hashes[name] = g.set(encoding)
		return by(g.hashes[name])
	}
	low := name("low", leaf("123", long))
	right := name("right", leaf("45", long))
	fork := name("fork", branch(long, kid{0, low}, kid{3, leaf("1", "whole")}, kid{10, right}))
	over := name("over", ext("678", fork))
	mid := name("mid", branch("", kid{1, leaf("22", "w")}, kid{2, low}, kid{15, fork}))
	left := name("left", leaf("9", long+long))
	name("top", branch("v", kid{0, over}, kid{4, mid}, kid{5, branch("", kid{1, leaf("", "a")}, kid{2, leaf("", "b")})}, kid{8, left}, kid{14, left}))
	return g
}

// by tells hashes of a garden by their names.
func (g *garden) by(names string) []api.Hash {
	var out []api.Hash
	for _, name := range strings.Fields(names) {
		h, there := g.hashes[name]
		if !there {
			panic(name)
		}
		out = append(out, h)
	}
	return out
}

// gets is so many readings.
func gets(n int) string { return strings.TrimSpace(strings.Repeat("get ", n)) }

func TestNewRefuses(t *testing.T) {
	r := layGarden(t, 256, 4)
	for _, root := range []api.Hash{r.hashes["top"], emptyRoot(256), {}} {
		for _, c := range []struct {
			s    *hstore.Store
			book *digest.Book
		}{{nil, r.book}, {r.s, nil}, {nil, nil}} {
			if x, e := scrub.New(c.s, c.book, root); x != nil || e != api.ErrHandle {
				t.Errorf("22.1: %v, %d", x, e)
			}
		}
	}
	r.look()
}

// New and Pass make no access, whatever the device is about to do: the choices are still there for the step.
func TestNewMakesNoAccess(t *testing.T) {
	g := layGarden(t, 256, 4)
	g.choose(choice(api.Crash, 0))
	for _, root := range []api.Hash{g.hashes["top"], g.hashes["low"], emptyRoot(256), key(1), {}} {
		if made := g.made(func() { g.begin(root) }); made != "" {
			t.Errorf("22.1, R6: New and Pass make the accesses %q", made)
		}
	}
	p := g.begin(g.hashes["top"])
	p.steps("22.2: the choice is met at the step", 5, api.Pass{}, api.ErrDown, "get-")
	for _, root := range []api.Hash{g.hashes["top"], emptyRoot(256)} {
		q := g.begin(root) // the device is down
		q.is("22.3", api.Pass{Done: root == emptyRoot(256)})
	}
	p.is("22.3", api.Pass{})
}

// Roots of all kinds, and what stands in the row then.
func TestRoots(t *testing.T) {
	for _, bits := range []int{256, 255, 129, 40, 24} {
		for _, c := range []struct{ root, row string }{
			{"low", "low"},
			{"left", "left"},
			{"over", "over fork low right"},
			{"fork", "fork low right"},
			{"mid", "mid low fork right"},
			{"top", "top over mid left fork low right"},
		} {
			want := layGarden(t, bits, 0).by(c.row)
			g := layGarden(t, bits, 0)
			p := g.begin(g.hashes[c.root])
			p.is("22.3: nothing has been looked at", api.Pass{})
			for i := range want {
				p.steps("22.2", 1, api.Pass{Seen: i + 1, Done: i+1 == len(want)}, api.OK, "get")
			}
			p.steps("22.2: behind the last one", 1, api.Pass{Seen: len(want), Done: true}, api.OK, "")
			if !slices.Equal(p.m.row, want) {
				t.Errorf("22.2: from %s the row is %.3x, not %.3x", c.root, p.m.row, want)
			}
			for i, h := range want { // whose reading is dropped, shows which one it was
				g := layGarden(t, bits, 0)
				p := g.begin(g.hashes[c.root])
				g.choose(honest(i, choice(api.Drop, 0))...)
				got, e := p.step(i + 1)
				if e != api.OK || got.Seen != i+1 || got.Bad != 1 {
					t.Errorf("22.2: %+v, %d", got, e)
				}
				g.state("22.2: the order of the row", nil, []api.Hash{h})
			}
		}
	}
}

// A root that nobody has.
func TestARootThatIsNotThere(t *testing.T) {
	for _, h := range []api.Hash{{}, key(1), key(255), hashOf(256, leaf("1", long+"absent")), emptyRoot(255)} {
		g := layGarden(t, 256, 4)
		p := g.begin(h)
		p.is("22.1", api.Pass{})
		p.steps("22.2: not there", 4096, api.Pass{Seen: 1, Bad: 1, Done: true}, api.OK, "get-")
		g.state("22.2: not there", nil, []api.Hash{h})
		p.steps("22.2: it is looked at once", 4096, api.Pass{Seen: 1, Bad: 1, Done: true}, api.OK, "")
	}
}

// The empty trie's root: the row is empty, and stays so, even where the device has a blob under it.
func TestTheEmptyTrie(t *testing.T) {
	for _, bits := range []int{256, 12, 8} {
		r := lay(t, 9, bits, 4)
		r.put(emptyRoot(bits), "\x80")
		p := r.begin(emptyRoot(bits))
		p.is("22.3: done at once", api.Pass{Done: true})
		for _, n := range []int{1, 2, 4096} {
			p.steps("22.2: the empty trie", n, api.Pass{Done: true}, api.OK, "")
		}
		r.choose(choice(api.Crash, 0))
		r.read(key(1))
		p.steps("22.2: nothing is read, so a device that is down is nothing to it", 3, api.Pass{Done: true}, api.OK, "")
		r.state("22.2", nil, nil)
	}
}

// Which root is the empty trie's, the book that is handed in tells.
func TestAnotherBook(t *testing.T) {
	g := layGarden(t, 256, 4)
	narrow := newBook(t, 40)
	for _, c := range []struct {
		root api.Hash
		want api.Pass
	}{
		{emptyRoot(40), api.Pass{Done: true}},
		{emptyRoot(256), api.Pass{Seen: 1, Bad: 1, Done: true}},
		{g.hashes["over"], api.Pass{Seen: 4, Done: true}},
	} {
		x, e := scrub.New(g.s, narrow, c.root)
		if e != api.OK {
			t.Fatalf("22.1: %d", e)
		}
		if got, e := x.Step(9); e != api.OK || got != c.want {
			t.Errorf("22.1: %+v, %d, not %+v", got, e, c.want)
		}
	}
	if !slices.Equal(g.s.Quarantine(), []api.Hash{emptyRoot(256)}) {
		t.Errorf("22.2: %x", g.s.Quarantine())
	}
}

func TestANilScrub(t *testing.T) {
	var none *scrub.Scrub
	for _, n := range []int{-1, 0, 1, 2, 4096, 4097, math.MinInt, math.MaxInt} {
		if got, e := none.Step(n); got != (api.Pass{}) || e != api.ErrHandle {
			t.Errorf("22.2: Step(%d) of nil: %+v, %d", n, got, e)
		}
	}
	if got := none.Pass(); got != (api.Pass{}) {
		t.Errorf("22.3: Pass of nil: %+v", got)
	}
}

// A step of a number that may not be changes nothing, wherever the pass stands.
func TestStepRefuses(t *testing.T) {
	g := layGarden(t, 256, 4)
	for _, root := range []api.Hash{g.hashes["top"], emptyRoot(256)} {
		p := g.begin(root)
		for range 5 { // ahead of the first one, amid them, behind the last one
			was := p.x.Pass()
			for _, n := range []int{0, -1, -4096, 4097, 5000, 1 << 20, math.MinInt, math.MaxInt} {
				p.steps("22.2", n, api.Pass{}, api.ErrInput, "")
				p.is("22.2: nothing has changed", was)
			}
			p.step(2)
		}
	}
	g.choose(choice(api.Crash, 0))
	p := g.begin(g.hashes["top"])
	p.steps("22.2: no access", 0, api.Pass{}, api.ErrInput, "")
	p.step(1)
	p.steps("22.2: ahead of ErrDown", 4097, api.Pass{}, api.ErrInput, "")
}

// Steps of every number, again and again, up to the end and beyond it.
func TestStepsOfEachNumber(t *testing.T) {
	for _, n := range []int{1, 2, 3, 4, 5, 6, 7, 8, 100, 4095, 4096} {
		g := layGarden(t, 256, 3)
		p := g.begin(g.hashes["top"])
		for seen := 0; seen < 7; {
			more := min(n, 7-seen)
			seen += more
			p.steps("22.2", n, api.Pass{Seen: seen, Done: seen == 7}, api.OK, gets(more))
		}
		for range 3 {
			p.steps("22.2: behind the last one", n, api.Pass{Seen: 7, Done: true}, api.OK, "")
		}
		g.state("22.2", nil, nil)
	}
}

// A row of more than 4096: branches over branches over branches whose kids are not there.
func TestAGreatRow(t *testing.T) {
	r := lay(t, 400, 256, 0)
	var below func(depth, at int) api.Hash
	below = func(depth, at int) api.Hash {
		if depth == 3 {
			return api.Hash{byte(at >> 8), byte(at), 31: 1}
		}
		var kids []kid
		for i := range 16 {
			kids = append(kids, kid{i, by(below(depth+1, at*16+i))})
		}
		return r.set(branch("", kids...))
	}
	root := below(0, 0)
	there := 1 + 16 + 256
	if n := len(r.blobs()); n != there {
		t.Fatalf("%d blobs", n)
	}
	x, e := scrub.New(r.s, r.book, root)
	if e != api.OK {
		t.Fatalf("22.1: %d", e)
	}
	step := func(n int, want api.Pass) {
		t.Helper()
		if got, e := x.Step(n); e != api.OK || got != want || x.Pass() != want {
			t.Errorf("22.2: Step(%d): %+v, %d, not %+v", n, got, e, want)
		}
	}
	step(4096, api.Pass{Seen: 4096, Bad: 4096 - there})
	if n := len(r.s.Quarantine()); n != 4096-there {
		t.Errorf("22.2: %d in quarantine", n)
	}
	step(there-1, api.Pass{Seen: 4096 + there - 1, Bad: 4095})
	step(4096, api.Pass{Seen: 4096 + there, Bad: 4096, Done: true})
	if n := len(r.d.Accesses()) - len(r.twin.Accesses()); n != 4096+there {
		t.Errorf("R6: %d accesses", n)
	}
	x, _ = scrub.New(r.s, r.book, root)
	step(1, api.Pass{Seen: 1})
	step(4095, api.Pass{Seen: 4096, Bad: 4096 - there})
}

// A node that is led to from two places is looked at once, be it waiting still or looked at already; one that leads to itself, too.
func TestLedToTwice(t *testing.T) {
	r := lay(t, 9, 256, 0)
	low := r.set(leaf("1", long))
	fork := r.set(branch("", kid{0, by(low)}, kid{1, by(low)}, kid{15, by(low)}))
	over := r.set(ext("1", by(fork)))
	top := r.set(branch(long, kid{3, by(low)}, kid{4, by(over)}, kid{5, by(fork)}, kid{6, by(over)}))
	p := r.begin(top)
	p.steps("22.2: led to twice", 9, api.Pass{Seen: 4, Done: true}, api.OK, "get get get get")
	if want := []api.Hash{top, low, over, fork}; !slices.Equal(p.m.row, want) {
		t.Errorf("22.2: %.3x, not %.3x", p.m.row, want)
	}
	r.lose(low)
	p = r.begin(top)
	p.steps("22.2: a bad one counts once", 9, api.Pass{Seen: 4, Bad: 1, Done: true}, api.OK, "get get- get get")
	r.lose(over)
	r.lose(fork)
	p = r.begin(top)
	p.steps("22.2: each bad one counts", 9, api.Pass{Seen: 4, Bad: 3, Done: true}, api.OK, "get get- get- get-")
}

// With few bits a node may lead to itself, or two of them to one another: the pass ends all the same.
func TestRounds(t *testing.T) {
	r := lay(t, 9, 8, 0)
	search := func(h api.Hash, make func(value string) string) string {
		for i := 1; ; i++ {
			if b := make(strings.Repeat("x", 1+i/250) + string([]byte{byte(i%250 + 1)})); hashOf(8, b) == h {
				return b
			}
		}
	}
	self := api.Hash{0x31}
	r.put(self, search(self, func(v string) string { return branch(v, kid{2, by(self)}) }))
	r.begin(self).steps("22.2: a node that leads to itself", 9, api.Pass{Seen: 1, Done: true}, api.OK, "get")
	one, two := api.Hash{0x32}, api.Hash{0x33}
	r.put(one, search(one, func(v string) string { return branch(v, kid{2, by(two)}, kid{3, by(self)}) }))
	r.put(two, search(two, func(v string) string { return branch(v, kid{2, by(one)}, kid{5, by(self)}) }))
	for _, h := range []api.Hash{one, two} {
		p := r.begin(h)
		p.steps("22.2: two that lead to one another", 2, api.Pass{Seen: 2}, api.OK, "get get")
		p.steps("22.2: two that lead to one another", 2, api.Pass{Seen: 3, Done: true}, api.OK, "get")
	}
}

// The empty trie's root that stands within a node is read like any other hash.
func TestTheEmptyTriesRootWithin(t *testing.T) {
	r := lay(t, 9, 256, 0)
	top := r.set(ext("12", by(emptyRoot(256))))
	r.begin(top).steps("22.2: not there", 9, api.Pass{Seen: 2, Bad: 1, Done: true}, api.OK, "get get-")
	r.state("22.2: not there", nil, []api.Hash{emptyRoot(256)})
	r.put(emptyRoot(256), "\x80")
	r.begin(top).steps("22.2: no node", 9, api.Pass{Seen: 2, Bad: 1, Done: true}, api.OK, "get get")
	r.state("22.2: no node, but the right bytes", nil, nil)
}

// Whether a node may stand where it stands is not looked at: short ones by their hash, whatever stands under an extension, and paths of any length.
func TestPlacesAreNotLookedAt(t *testing.T) {
	r := lay(t, 9, 256, 0)
	short := r.set(leaf("1", "v"))
	under := r.set(ext("1", by(short)))
	twice := r.set(ext(strings.Repeat("1", 64), by(under)))
	top := r.set(branch("", kid{1, by(twice)}, kid{2, by(short)}))
	r.begin(top).steps("22.2: places", 9, api.Pass{Seen: 4, Done: true}, api.OK, gets(4))
	r.begin(short).steps("22.2: a short root", 9, api.Pass{Seen: 1, Done: true}, api.OK, gets(1))
}

// Each node of the garden lost, altered or replaced by another one: it is bad, and what lies below it alone is not known.
func TestWrongNodes(t *testing.T) {
	below := map[string]string{ // what is looked at if this one is bad
		"top": "top", "over": "top over mid left low fork right", "mid": "top over mid left fork low right",
		"left": "top over mid left fork low right", "fork": "top over mid left fork low", "low": "top over mid left fork low right", "right": "top over mid left fork low right",
	}
	for name, row := range below {
		for _, wrong := range []string{"lost", "altered", "another's", "empty", "cut short", "too long", "altered on its way", "dropped"} {
			g := layGarden(t, 256, 4)
			want, h, b := g.by(row), g.hashes[name], g.nodes[name]
			at := slices.Index(want, h)
			switch wrong {
			case "lost":
				g.lose(h)
			case "altered":
				g.put(h, b[:len(b)-1]+string([]byte{b[len(b)-1] ^ 1}))
			case "another's":
				g.put(h, leaf("77", long))
			case "empty":
				g.put(h, "")
			case "cut short":
				g.put(h, b[:len(b)-1])
			case "too long":
				g.put(h, b+"\x00")
			case "altered on its way":
				g.choose(honest(at, choice(api.Alter, 3))...)
			case "dropped":
				g.choose(honest(at, choice(api.Drop, 3))...)
			}
			p := g.begin(g.hashes["top"])
			got, e := p.step(99)
			if e != api.OK || got != (api.Pass{Seen: len(want), Bad: 1, Done: true}) || !slices.Equal(p.m.row, want) {
				t.Errorf("22.2: %s is %s: %+v, %d, the row is %.3x", name, wrong, got, e, p.m.row)
			}
			g.state("22.7: "+name+" is "+wrong, nil, []api.Hash{h})
		}
	}
}

// Bytes that are no node's.
func noNodes() []string {
	return []string{
		"these are some bytes, but they are no node's encoding", "", "\x00", "\x80", "\xc0", "\x01\x02\x03", "\xc1\x80", leaf("12", ""),
		leaf(strings.Repeat("1", 65), "v"), leaf("12", strings.Repeat("v", 257)), branch("", kid{1, leaf("", "a")}), branch("v"),
		ext("", leaf("", "a")), ext("1", leaf("", "a")), leaf("12", long) + "\x00", leaf("12", long)[:20],
		list(item(packed("12", 2)), item(long), item(long)), strings.Repeat("\x00", 1024), strings.Repeat("\x00", 1025), strings.Repeat("\xc0", 140000),
	}
}

// Bytes whose hash is right, and that are no node, are bad; but they do not stand in the quarantine: no other bytes are waited for.
func TestRightBytesThatAreNoNode(t *testing.T) {
	for _, b := range noNodes() {
		if len(b) == 0 || len(b) > api.MaxNode || b == "\x80" {
			continue // no blob, or the empty trie's
		}
		r := lay(t, 9, 256, 4)
		h := r.set(b)
		r.begin(h).steps("22.2: no node", 9, api.Pass{Seen: 1, Bad: 1, Done: true}, api.OK, "get")
		r.state("22.2: no node", nil, nil)
		top := r.set(branch("", kid{1, by(h)}, kid{2, by(r.set(leaf("3", long)))}))
		r.begin(top).steps("22.2: no node", 9, api.Pass{Seen: 3, Bad: 1, Done: true}, api.OK, gets(3))
		r.state("22.2: no node", nil, nil)
		r.lose(h)
		r.begin(top).steps("22.2: now it is lost", 9, api.Pass{Seen: 3, Bad: 1, Done: true}, api.OK, "get get- get")
		r.state("22.2: now it is lost", nil, []api.Hash{h})
		r.repairs("22.4: and is no node still", b, api.ErrShape, "")
		r.put(h, b)
		r.begin(top).step(9)
		r.state("22.2: read right, it leaves the quarantine", nil, nil)
	}
}

// With few bits another node with the right hash is what is looked at, and what it leads to is gone to.
func TestClashes(t *testing.T) {
	for _, bits := range []int{8, 12} {
		r := lay(t, 9, bits, 4)
		far := r.set(leaf("12", long))
		h := r.set(ext("12", by(api.Hash{0xf0})))
		r.begin(h).steps("22.2: what it leads to is lost", 9, api.Pass{Seen: 2, Bad: 1, Done: true}, api.OK, "get get-")
		for i := 0; ; i++ {
			b := branch(long+string([]byte{byte(i), byte(i >> 8)}), kid{5, by(far)})
			if hashOf(bits, b) == h {
				r.put(h, b)
				break
			}
		}
		r.begin(h).steps("22.2: another node of the same hash", 9, api.Pass{Seen: 2, Done: true}, api.OK, "get get")
		if len(r.book.Clashes()) == 0 {
			t.Errorf("R7: the book tells no clash")
		}
	}
}

// The device goes down amid a step: what was looked at ahead of it has been, and the next step goes on there.
func TestDownAmidAStep(t *testing.T) {
	row := strings.Fields("top over mid left fork low right")
	for _, kind := range []int{api.Crash, api.Torn, api.After} {
		for _, lost := range []string{"", "over", "mid", "low"} {
			for at := range row {
				g := layGarden(t, 256, 2)
				names := row
				if lost == "over" {
					names = strings.Fields("top over mid left low fork right")
				}
				bad := 0
				if lost != "" {
					g.lose(g.hashes[lost])
					bad = 1
				}
				p := g.begin(g.hashes["top"])
				g.choose(honest(at, choice(kind, 3))...)
				if got, e := p.step(99); got != (api.Pass{}) || e != api.ErrDown {
					t.Errorf("22.2: down at %d: %+v, %d", at, got, e)
				}
				ahead := 0
				if slices.Contains(names[:at], lost) {
					ahead = 1
				}
				p.is("22.2: down", api.Pass{Seen: at, Bad: ahead})
				for range 3 {
					p.steps("22.2: down still", 1, api.Pass{}, api.ErrDown, "")
				}
				p.is("22.2: down still", api.Pass{Seen: at, Bad: ahead})
				if slices.Contains(g.s.Quarantine(), g.hashes[names[at]]) {
					t.Errorf("22.2: nothing was learned of what was not looked at")
				}
				g.up()
				p.step(1)
				if now := p.x.Pass(); now.Seen != at+1 {
					t.Errorf("22.2: up again: %+v", now)
				}
				if got := p.through(2); got != (api.Pass{Seen: len(names), Bad: bad, Done: true}) {
					t.Errorf("22.2: up again: %+v", got)
				}
			}
		}
	}
}

// Nodes are looked at on the device: what the cache has is neither asked nor changed.
func TestBesideTheCache(t *testing.T) {
	for _, cache := range []int{0, 1, 3, 256} {
		g := layGarden(t, 256, cache)
		for _, h := range g.by("left fork low top mid right over") {
			g.read(h)
		}
		cached := g.s.Cached()
		p := g.begin(g.hashes["top"])
		p.steps("22.5: a clean pass beside the cache", 99, api.Pass{Seen: 7, Done: true}, api.OK, gets(7))
		g.state("22.2: the cache", cached, nil)
		g.lose(g.hashes["fork"])
		g.put(g.hashes["left"], leaf("9", long+"!"))
		g.begin(g.hashes["top"]).steps("22.2: lost on the device, though the cache has it", 99, api.Pass{Seen: 6, Bad: 2, Done: true}, api.OK, "get get get get get- get")
		g.state("22.2: the cache", cached, rising(g.by("fork left")))
		g.repairs("22.4", g.nodes["fork"], api.OK, "put")
		g.repairs("22.4", g.nodes["left"], api.OK, "put")
		g.state("22.4: the cache", cached, nil)
		g.begin(g.hashes["top"]).steps("22.7: repaired", 99, api.Pass{Seen: 7, Done: true}, api.OK, gets(7))
		g.state("22.2: the cache", cached, nil)
	}
}

// A reading that goes right takes a hash out of the quarantine; what is not looked at stays there.
func TestTheQuarantine(t *testing.T) {
	g := layGarden(t, 256, 0)
	g.read(key(1))
	for _, h := range g.by("top fork right") {
		g.choose(choice(api.Drop, 0))
		g.read(h)
	}
	g.state("ahead of the pass", nil, rising(append(g.by("top fork right"), key(1))))
	p := g.begin(g.hashes["top"])
	for i, left := range []string{"fork right", "fork right", "fork right", "fork right", "right", "right", ""} {
		p.steps("22.2", 1, api.Pass{Seen: i + 1, Done: i == 6}, api.OK, "get")
		g.state("22.2: the quarantine", nil, rising(append(g.by(left), key(1))))
	}
}

// A device that changes amid a pass: what has been looked at is not looked at again, what waits is.
func TestChangesAmidAPass(t *testing.T) {
	g := layGarden(t, 256, 0)
	p := g.begin(g.hashes["top"])
	p.step(2)
	g.lose(g.hashes["top"])
	g.lose(g.hashes["over"])
	g.lose(g.hashes["right"])
	p.steps("22.2: what was looked at is lost", 4, api.Pass{Seen: 6}, api.OK, gets(4))
	p.steps("22.2: what waits is lost", 4, api.Pass{Seen: 7, Bad: 1, Done: true}, api.OK, "get-")
	g.put(g.hashes["right"], g.nodes["right"])
	p.steps("22.2: and comes back", 4, api.Pass{Seen: 7, Bad: 1, Done: true}, api.OK, "")
	g.begin(g.hashes["top"]).steps("22.2: a new pass", 4, api.Pass{Seen: 1, Bad: 1, Done: true}, api.OK, "get-")
}

// Two passes over one store: neither knows of the other.
func TestTwoPasses(t *testing.T) {
	g := layGarden(t, 256, 4)
	one, two, other := g.begin(g.hashes["top"]), g.begin(g.hashes["top"]), g.begin(g.hashes["mid"])
	one.steps("R5", 3, api.Pass{Seen: 3}, api.OK, gets(3))
	two.is("R5", api.Pass{})
	other.steps("R5", 4096, api.Pass{Seen: 4, Done: true}, api.OK, gets(4))
	g.lose(g.hashes["fork"])
	two.steps("22.2: the nodes that both share are looked at anew", 9, api.Pass{Seen: 6, Bad: 1, Done: true}, api.OK, "get get get get get- get")
	one.is("R5", api.Pass{Seen: 3})
	one.steps("R5", 9, api.Pass{Seen: 6, Bad: 1, Done: true}, api.OK, "get get- get")
	other.is("R5", api.Pass{Seen: 4, Done: true})
}
