package scrub_test

import (
	"bytes"
	"slices"
	"strings"
	"testing"

	"cairn/api"
	"cairn/scrub"
)

// A nil store is told ahead of bytes that are no node's.
func TestRepairOfANilStore(t *testing.T) {
	for _, b := range append(noNodes(), leaf("12", long), ext("1", by(key(1)))) {
		if e := scrub.Repair(nil, []byte(b)); e != api.ErrHandle {
			t.Errorf("22.4: %d", e)
		}
	}
	if e := scrub.Repair(nil, nil); e != api.ErrHandle {
		t.Errorf("22.4: %d", e)
	}
}

// Bytes that are no node's are refused as such, be they waited for or not.
func TestRepairOfWhatIsNoNode(t *testing.T) {
	for _, b := range noNodes() {
		r := lay(t, 9, 256, 4)
		r.repairs("22.4: nobody waits for it", b, api.ErrShape, "")
		h := hashOf(256, b)
		r.fresh(h)
		r.repairs("22.4: it is waited for", b, api.ErrShape, "")
		r.state("22.4: it is waited for still", nil, []api.Hash{h})
		r.has("22.4: nothing is written")
	}
	r := lay(t, 9, 256, 4)
	if e := scrub.Repair(r.s, nil); e != api.ErrShape {
		t.Errorf("R4: %d", e)
	}
}

// Nodes of all kinds: nobody waits for them, then they are waited for, then they are there again.
func TestRepair(t *testing.T) {
	for _, name := range []string{"top", "over", "mid", "left", "fork", "low", "right"} {
		for _, wrong := range []string{"lost", "altered"} {
			g := layGarden(t, 256, 4)
			h, b := g.hashes[name], g.nodes[name]
			g.repairs("22.4: nobody waits for it", b, api.ErrUnwanted, "")
			if wrong == "lost" {
				g.lose(h)
			} else {
				g.put(h, b+"?")
			}
			g.repairs("22.4: nobody has found it yet", b, api.ErrUnwanted, "")
			g.begin(h).step(1)
			g.state("22.4", nil, []api.Hash{h})
			for other, c := range g.nodes {
				if other != name {
					g.repairs("22.4: another one is waited for", c, api.ErrUnwanted, "")
				}
			}
			g.repairs("22.4: no node", b+"?", api.ErrShape, "")
			g.state("22.4: it waits on", nil, []api.Hash{h})
			g.repairs("22.4: waited for", b, api.OK, "put")
			g.state("22.4: it waits no more, and is not cached", nil, nil)
			g.repairs("22.4: twice", b, api.ErrUnwanted, "")
			g.begin(g.hashes["top"]).steps("22.7", 9, api.Pass{Seen: 7, Done: true}, api.OK, gets(7))
			for other, c := range g.nodes {
				if got, e := g.s.Fresh(g.hashes[other]); e != api.OK || string(got) != c {
					t.Errorf("22.4: %s: %d", other, e)
				}
			}
		}
	}
}

// A node of fewer than 32 bytes is repaired too: a root may be so short.
func TestRepairOfAShortRoot(t *testing.T) {
	r := lay(t, 9, 256, 4)
	b := leaf("12", "v")
	h := hashOf(256, b)
	r.begin(h).steps("22.2", 1, api.Pass{Seen: 1, Bad: 1, Done: true}, api.OK, "get-")
	r.repairs("22.4: a short one", b, api.OK, "put")
	r.begin(h).steps("22.2", 1, api.Pass{Seen: 1, Done: true}, api.OK, "get")
}

// Where the device has no slot left, the error is the device's, and the node waits on; one that takes the place of wrong bytes needs none.
func TestRepairWithoutRoom(t *testing.T) {
	r := lay(t, 2, 256, 4)
	b := leaf("12", long)
	h := hashOf(256, b)
	r.put(key(1), "a stray")
	r.put(key(2), "another")
	r.begin(h).step(1)
	for range 2 {
		r.repairs("22.4: no slot left", b, api.ErrFull, "put-")
		r.state("22.4: no slot left", nil, []api.Hash{h})
		r.has("22.4: no slot left", key(1), key(2))
	}
	r.lose(key(2))
	r.repairs("22.4: a slot", b, api.OK, "put")
	r.has("22.4: a slot", key(1), h)
	r.put(h, "wrong")
	r.begin(h).step(1)
	r.repairs("22.4: its own slot", b, api.OK, "put")
	r.begin(h).steps("22.2", 1, api.Pass{Seen: 1, Done: true}, api.OK, "get")
}

// Each choice at the one access of a repair: what it answers, what waits then, and what the device has.
func TestRepairByEachChoice(t *testing.T) {
	b := leaf("12", long)
	h := hashOf(256, b)
	turned := string([]byte{b[0] ^ 3}) + b[1:]
	for kind, c := range []struct {
		n    int
		made string
		e    api.Errno
		has  string // under its hash, the device honest again
	}{
		{0, "put", api.OK, b},
		{0, "put", api.OK, turned},
		{0, "put", api.OK, "before"},
		{0, "put", api.OK, "earlier"},
		{1, "put", api.OK, b},
		{2, "put-", api.ErrDown, b[:2]},
		{0, "put-", api.ErrDown, "before"},
		{0, "put-", api.ErrDown, b},
	} {
		r := lay(t, 9, 256, 4)
		for _, was := range []string{"earlier", "and", "before"} {
			r.put(h, was)
		}
		r.put(key(1), "a stray")
		r.begin(h).step(1)
		r.choose(api.Choice{Kind: kind, N: c.n, M: 2})
		r.repairs("22.4", b, c.e, c.made)
		if c.e == api.OK {
			r.state("22.4: it waits no more", nil, nil)
		} else {
			r.state("22.4: it waits on", nil, []api.Hash{h})
		}
		r.up()
		blobs := r.d.Media().Blobs
		if at := slices.IndexFunc(blobs, func(x api.Blob) bool { return x.Key == h }); at < 0 || string(blobs[at].Data) != c.has {
			t.Errorf("22.4: the choice %d: the device has not %q", kind, c.has)
		}
		kept := c.has == b
		if got, e := r.begin(h).step(1); e != api.OK || (got.Bad == 0) != kept {
			t.Errorf("22.7: the choice %d: the next pass tells %+v, %d", kind, got, e)
		}
		if waits := len(r.s.Quarantine()) == 1; waits == kept {
			t.Errorf("22.7: whether the device has kept it, the next pass tells")
		}
	}
}

// Down: no access, and it waits on.
func TestRepairOverADeviceThatIsDown(t *testing.T) {
	r := lay(t, 9, 256, 4)
	b := leaf("12", long)
	h := hashOf(256, b)
	r.begin(h).step(1)
	r.choose(choice(api.Crash, 0))
	r.fresh(key(1))
	for range 2 {
		r.repairs("22.4: down", b, api.ErrDown, "")
		r.state("22.4: down", nil, []api.Hash{h})
		r.repairs("22.4: down, and nobody waits", leaf("13", long), api.ErrUnwanted, "")
		r.repairs("22.4: down, and no node", "?", api.ErrShape, "")
	}
	r.up().repairs("22.4: up again", b, api.OK, "put")
	r.state("22.4: up again", nil, nil)
}

// With few bits another node of the same hash is taken like the true one, unless the cache has other bytes.
func TestRepairWithAClash(t *testing.T) {
	const bits = 8
	b := leaf("12", long)
	h := hashOf(bits, b)
	other := ""
	for i := 0; other == ""; i++ {
		if c := leaf("34", long+string([]byte{byte(i), byte(i >> 8)})); hashOf(bits, c) == h {
			other = c
		}
	}
	r := lay(t, 9, bits, 4)
	r.begin(h).step(1)
	r.repairs("22.4: of the same hash", other, api.OK, "put")
	r.begin(h).steps("22.2: of the same hash", 1, api.Pass{Seen: 1, Done: true}, api.OK, "get")

	r = lay(t, 9, bits, 4)
	r.put(h, b)
	r.read(h)
	r.lose(h)
	r.begin(h).step(1)
	r.state("22.2", []api.Hash{h}, []api.Hash{h})
	r.repairs("22.4: the cache has other bytes", other, api.ErrClash, "")
	r.state("22.4: it waits on", []api.Hash{h}, []api.Hash{h})
	r.repairs("22.4: the cache has these", b, api.OK, "put")
	r.state("22.4", []api.Hash{h}, nil)
}

// What a repair writes is a blob under its own hash: all else stays as it is, to the byte.
func TestRepairWritesOneBlob(t *testing.T) {
	g := layGarden(t, 256, 4)
	for _, name := range []string{"top", "fork", "right"} {
		g.lose(g.hashes[name])
	}
	for _, name := range []string{"top", "fork", "right"} {
		g.fresh(g.hashes[name])
	}
	for _, name := range []string{"fork", "left", "right", "top", "fork"} {
		was := g.d.Media()
		g.repair(g.nodes[name])
		now := g.d.Media()
		own := func(x api.Blob) bool { return x.Key == g.hashes[name] }
		if at := slices.IndexFunc(now.Blobs, own); at < 0 || string(now.Blobs[at].Data) != g.nodes[name] {
			t.Errorf("22.8: %s is not there", name)
		}
		was.Blobs, now.Blobs = slices.DeleteFunc(was.Blobs, own), slices.DeleteFunc(now.Blobs, own)
		if !sameMedia(was, now) {
			t.Errorf("22.8: more than %s has changed", name)
		}
	}
}

// The book has hashed what is written under its hash.
func TestRepairHashesByTheBook(t *testing.T) {
	r := lay(t, 9, 256, 4)
	b := leaf("12", long)
	r.begin(hashOf(256, b)).step(1)
	if r.repair(b) != api.OK || !hasHashed(r.book, b) {
		t.Errorf("R7: %.20x was never hashed", b)
	}
	top := ext("1", by(r.set(branch(long, kid{3, leaf("1", "v")}))))
	r.put(hashOf(256, top), top)
	r.begin(hashOf(256, top)).through(1)
	for _, b := range []string{top, branch(long, kid{3, leaf("1", "v")})} {
		if !hasHashed(r.book, b) {
			t.Errorf("R7: %.20x was read as right and never hashed", b)
		}
	}
}

// A root is held against the empty trie's: so the book has hashed that one's bytes, by New alone.
func TestNewHashesByTheBook(t *testing.T) {
	r := lay(t, 9, 256, 4)
	r.begin(key(1))
	if !hasHashed(r.book, "\x80") {
		t.Errorf("R7: the empty trie's byte was never hashed")
	}
}

// Bytes of every length up to some beyond a blob's greatest: refused as the chapter says, without a panic.
func TestRepairOfEachLength(t *testing.T) {
	r := lay(t, 9, 256, 4)
	for size := range 1100 {
		for _, x := range []string{"\x00", "\x80", "\xc0", "\xf9", "\xff"} {
			b := strings.Repeat(x, size)
			if e := scrub.Repair(r.s, []byte(b)); e != api.ErrShape {
				t.Fatalf("22.4: %d times %x: %d", size, x, e)
			}
		}
	}
	greatest := bytes.Repeat([]byte("v"), api.MaxValue)
	for size := range len(greatest) + 2 {
		want := api.ErrUnwanted
		if size == 0 || size > api.MaxValue {
			want = api.ErrShape
		}
		if e := scrub.Repair(r.s, []byte(leaf("12", strings.Repeat("v", size)))); e != want {
			t.Fatalf("22.4: a value of %d bytes: %d", size, e)
		}
	}
	r.look()
}
