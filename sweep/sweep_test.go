package sweep_test

import (
	"fmt"
	"slices"
	"strings"
	"testing"

	"cairn/api"
	"cairn/digest"
	"cairn/hstore"
	"cairn/media"
	"cairn/sweep"
)

// orchard is a device with the tries of two maps that share nodes, and with strays that nobody leads to.
type orchard struct {
	*rig
	one, two trie
	strays   []api.Hash
}

// layOrchard makes one; the store has read nothing.
func layOrchard(t *testing.T, bits, cache int) *orchard {
	t.Helper()
	o := &orchard{rig: lay(t, 40, bits, cache), strays: []api.Hash{key(0), key(0x70), key(0xff)}}
	o.one, o.two = o.plant(first()), o.plant(second())
	for i, h := range o.strays {
		o.put(h, strings.Repeat("stray", i))
	}
	if len(o.shared()) < 3 || len(lack(o.one.keys, o.two.keys)) < 2 || len(lack(o.two.keys, o.one.keys)) < 4 {
		t.Fatalf("the tries share %d nodes of %d and %d", len(o.shared()), len(o.one.keys), len(o.two.keys))
	}
	return o
}

// shared tells what both tries have.
func (o *orchard) shared() []api.Hash { return lack(o.one.keys, lack(o.one.keys, o.two.keys)) }

// accesses is how a sweep's accesses are told: so many gets, the list, so many deletes.
func accesses(gets, deletes int) string {
	return strings.TrimSpace(strings.Repeat("get ", gets) + "list " + strings.Repeat("delete ", deletes))
}

func TestSweepHandles(t *testing.T) {
	o := layOrchard(t, 256, 3)
	o.read(o.one.root)
	o.read(key(0x99))
	cached, bad := o.s.Cached(), o.s.Quarantine()
	for _, d := range []*media.Device{nil, o.d} {
		for _, s := range []*hstore.Store{nil, o.s} {
			for _, book := range []*digest.Book{nil, o.book} {
				if d != nil && s != nil && book != nil {
					continue
				}
				for _, roots := range [][]api.Hash{nil, {o.one.root}, {key(0x98)}} {
					made := o.made(func() {
						if got, e := sweep.Sweep(d, s, book, o.strays, roots...); e != api.ErrHandle || got != (api.Swept{}) {
							t.Errorf("21.2: %+v, %d", got, e)
						}
					})
					if made != "" {
						t.Errorf("R6: %q", made)
					}
				}
			}
		}
	}
	o.state("21.2: with ErrHandle nothing has changed", cached, bad)
	o.look()
}

// The roots that are named, and what is left then.
func TestSweepOfRoots(t *testing.T) {
	for _, bits := range []int{256, 200, 33} {
		for _, cache := range []int{0, 2, 256} {
			lay := func() *orchard { return layOrchard(t, bits, cache) }
			none := emptyRoot(bits)
			for _, c := range []struct {
				name  string
				roots func(o *orchard) []api.Hash
				live  func(o *orchard) []api.Hash
			}{
				{"none", func(o *orchard) []api.Hash { return nil }, func(o *orchard) []api.Hash { return nil }},
				{"the empty trie's", func(o *orchard) []api.Hash { return []api.Hash{none, none} }, func(o *orchard) []api.Hash { return nil }},
				{"the first", func(o *orchard) []api.Hash { return []api.Hash{o.one.root} }, func(o *orchard) []api.Hash { return o.one.keys }},
				{"the second, twice", func(o *orchard) []api.Hash { return []api.Hash{o.two.root, none, o.two.root} }, func(o *orchard) []api.Hash { return o.two.keys }},
				{"both", func(o *orchard) []api.Hash { return []api.Hash{o.two.root, o.one.root} }, func(o *orchard) []api.Hash { return union(o.one.keys, o.two.keys) }},
				{"one below", func(o *orchard) []api.Hash { return o.shared()[:1] }, func(o *orchard) []api.Hash {
					live, _ := o.mark(o.shared()[0])
					return live
				}},
			} {
				o := lay()
				live := c.live(o)
				o.forget()
				all := o.blobs()
				want := api.Swept{Live: len(live), Deleted: len(lack(all, live))}
				o.sweeps("21.2: roots: "+c.name, nil, c.roots(o), want, api.OK, accesses(want.Live, want.Deleted))
				o.has("21.4: roots: "+c.name, live...)
				o.open(cache)
				want.Deleted = 0
				o.sweeps("21.4: a second sweep: "+c.name, nil, c.roots(o), want, api.OK, accesses(want.Live, 0))
				o.has("21.4: a second sweep: "+c.name, live...)
			}
		}
	}
}

// Of what is to be kept only what is there and not marked counts; what it leads to is not kept with it.
func TestKeep(t *testing.T) {
	for _, c := range []struct {
		name string
		keep func(o *orchard) []api.Hash
		left func(o *orchard) []api.Hash // beside what is marked
	}{
		{"none", func(o *orchard) []api.Hash { return nil }, func(o *orchard) []api.Hash { return nil }},
		{"an empty list", func(o *orchard) []api.Hash { return []api.Hash{} }, func(o *orchard) []api.Hash { return nil }},
		{"what is marked", func(o *orchard) []api.Hash { return o.two.keys }, func(o *orchard) []api.Hash { return nil }},
		{"the other root", func(o *orchard) []api.Hash { return []api.Hash{o.one.root} }, func(o *orchard) []api.Hash { return []api.Hash{o.one.root} }},
		{"a stray", func(o *orchard) []api.Hash { return o.strays[1:2] }, func(o *orchard) []api.Hash { return o.strays[1:2] }},
		{"a stray many times", func(o *orchard) []api.Hash { return slices.Repeat(o.strays[2:], 9) }, func(o *orchard) []api.Hash { return o.strays[2:] }},
		{"what is not there", func(o *orchard) []api.Hash { return []api.Hash{key(0x33), {}, emptyRoot(256)} }, func(o *orchard) []api.Hash { return nil }},
		{"all", func(o *orchard) []api.Hash { return o.blobs() }, func(o *orchard) []api.Hash { return lack(o.blobs(), o.two.keys) }},
		{"some of each", func(o *orchard) []api.Hash {
			return join(o.strays[:1], o.two.keys[:2], []api.Hash{key(0x33)}, o.one.keys)
		}, func(o *orchard) []api.Hash { return join(o.strays[:1], lack(o.one.keys, o.two.keys)) }},
	} {
		o := layOrchard(t, 256, 0)
		keep, left := c.keep(o), join(o.two.keys, c.left(o))
		want := api.Swept{Live: len(o.two.keys), Deleted: len(lack(o.blobs(), left))}
		o.sweeps("21.2: keep: "+c.name, keep, []api.Hash{o.two.root}, want, api.OK, accesses(want.Live, want.Deleted))
		o.has("21.4: keep: "+c.name, left...)
	}
	o := layOrchard(t, 256, 0)
	keep := join(o.strays, o.one.keys)
	want := api.Swept{Deleted: len(lack(o.two.keys, o.one.keys))}
	o.sweeps("21.2: no root, and some to keep", keep, nil, want, api.OK, accesses(0, want.Deleted))
	o.has("21.4: no root, and some to keep", keep...)
}

// An empty device, and one of which all is live.
func TestNothingToSweep(t *testing.T) {
	r := lay(t, 5, 256, 1)
	r.sweeps("21.2: an empty device", nil, nil, api.Swept{}, api.OK, "list")
	r.sweeps("21.2: an empty device", []api.Hash{key(1)}, []api.Hash{emptyRoot(256)}, api.Swept{}, api.OK, "list")
	r.sweeps("21.6: an empty device", nil, []api.Hash{key(1)}, api.Swept{}, api.ErrNode, "get-")
	r.state("21.6: a root that is not there stands in the quarantine", nil, []api.Hash{key(1)})
	r.sweeps("21.2: none is deleted, and none forgotten", nil, nil, api.Swept{}, api.OK, "list")
	r.state("21.2: none is deleted, and none forgotten", nil, []api.Hash{key(1)})
}

// A node that can't be read: no List, no Delete, whichever it is and whatever is wrong with it.
func TestANodeThatCannotBeRead(t *testing.T) {
	for _, wrong := range []string{"lost", "altered", "another's", "down"} {
		o := layOrchard(t, 256, 0)
		_, read, _ := markModel(256, o.st.Node, []api.Hash{o.two.root})
		for at, h := range read {
			o := layOrchard(t, 256, 0)
			o.put(key(1), "one more")
			was := o.blobs()
			want, get := api.ErrNode, "get-"
			switch wrong {
			case "lost":
				o.lose(h)
				was = o.blobs()
			case "altered":
				o.choose(honest(at, choice(api.Alter, 5))...)
				get = "get"
			case "another's":
				o.put(h, leaf("12", long))
				get = "get"
			case "down":
				o.choose(honest(at, choice(api.Crash, 0))...)
				want = api.ErrDown
			}
			gets := strings.TrimSpace(strings.Repeat("get ", at) + get)
			o.sweeps("21.6: "+wrong, o.strays[:1], []api.Hash{o.two.root}, api.Swept{}, want, gets)
			o.has("21.6: "+wrong, was...)
			if want == api.ErrNode {
				o.state("21.6: "+wrong, nil, []api.Hash{h})
			} else {
				o.state("21.6: "+wrong, nil, nil)
			}
		}
	}
	for _, told := range noNodes() {
		if len(told) == 0 || len(told) > api.MaxNode {
			continue // no blob
		}
		r := lay(t, 9, 256, 4)
		h := hashOf(256, told)
		r.put(h, told)
		r.put(key(1), "a stray")
		r.sweeps("21.6: right bytes that are no node", nil, []api.Hash{h}, api.Swept{}, api.ErrNode, "get")
		r.state("21.6: right bytes that are no node", []api.Hash{h}, nil)
		r.has("21.6: right bytes that are no node", h, key(1))
	}
}

// What the cache has is not read from the device, be it lost there: it is live all the same.
func TestMarkByTheCache(t *testing.T) {
	o := layOrchard(t, 256, 256)
	for _, h := range o.two.keys {
		o.read(h)
	}
	lost := o.two.keys[1]
	o.lose(lost)
	want := api.Swept{Live: len(o.two.keys), Deleted: len(lack(o.blobs(), o.two.keys))}
	o.sweeps("21.2: by the cache", nil, []api.Hash{o.two.root}, want, api.OK, accesses(0, want.Deleted))
	o.has("21.2: by the cache", lack(o.two.keys, []api.Hash{lost})...)
	o.state("21.2: by the cache", o.two.keys, nil)
}

// A device that is down is not asked: by the cache alone one comes to the List.
func TestADeviceThatIsDown(t *testing.T) {
	for _, cache := range []int{0, 256} {
		o := layOrchard(t, 256, cache)
		for _, h := range o.two.keys {
			o.read(h)
		}
		cached := o.s.Cached()
		o.d.Choose(api.Choice{Kind: api.Crash})
		o.twin.Choose(api.Choice{Kind: api.Crash})
		o.read(o.strays[0])
		for _, roots := range [][]api.Hash{nil, {o.two.root}, {emptyRoot(256)}} {
			o.sweeps("21.2: down", nil, roots, api.Swept{}, api.ErrDown, "")
		}
		o.state("21.2: down", cached, nil)
		o.up()
		if got := o.sweep(nil, o.two.root); got.e != api.OK || got.swept.Live != len(o.two.keys) {
			t.Errorf("21.2: up again: %+v", got)
		}
	}
}

// What is deleted leaves the cache and the quarantine, and nothing else does; the cache's order stays.
func TestWhatIsForgotten(t *testing.T) {
	o := layOrchard(t, 256, 256)
	gone := lack(o.one.keys, o.two.keys)
	order := join(gone[:1], o.two.keys[2:4], gone[1:], o.two.keys[:2])
	for _, h := range order {
		o.read(h)
	}
	bad := []api.Hash{key(0x44), o.strays[1], o.two.keys[4]}
	o.read(bad[0]) // not there
	o.read(bad[1]) // other bytes than its hash asks for
	o.choose(choice(api.Drop, 0))
	o.read(bad[2])
	o.state("ahead of the sweep", order, rising(bad))
	o.sweep(nil, o.two.root)
	left := append(slices.Clone(o.two.keys[2:4]), o.two.keys[:2]...)
	if got := o.s.Cached(); !slices.Equal(got[:4], left) || len(lack(got, o.two.keys)) != 0 {
		t.Errorf("21.2: the cache has %.3x", got)
	}
	if got := o.s.Quarantine(); !slices.Equal(got, []api.Hash{key(0x44)}) {
		t.Errorf("21.2: the quarantine has %.3x: what was read right has left it, what was deleted too", got)
	}
}

// Where nothing is deleted, nothing is forgotten: not all either.
func TestNothingIsForgotten(t *testing.T) {
	o := layOrchard(t, 256, 256)
	for _, h := range o.blobs() {
		o.read(h)
	}
	o.read(key(0x44))
	cached, bad := o.s.Cached(), o.s.Quarantine()
	if len(cached) == 0 || len(bad) != 1+len(o.strays) {
		t.Fatalf("%d cached, %d in quarantine", len(cached), len(bad))
	}
	o.sweep(o.blobs())
	o.state("21.2: all are kept", cached, bad)
	o.choose(choice(api.Drop, 0))
	o.sweep(nil)
	o.state("21.2: none is listed", cached, bad)
	o.choose(choice(api.Crash, 0))
	o.sweep(nil)
	o.state("21.2: the List goes down", cached, bad)
	o.up().choose(honest(1, choice(api.Crash, 0))...)
	o.sweep(nil)
	o.state("21.2: the first Delete goes down", cached, bad)
	o.up().choose(honest(1, choice(api.After, 0))...)
	o.sweep(nil)
	o.state("21.2: the first Delete is done, and goes down ahead of its answer", cached, bad)
	if slices.Contains(o.blobs(), key(0)) {
		t.Errorf("21.2: it is there still")
	}
	o.up()
	o.lose(key(0x70))
	o.choose(choice(api.Replay, 1))
	o.sweep(lack(o.blobs(), []api.Hash{key(0x70)}))
	o.state("21.2: what is listed is not there", cached, bad)
}

// A Crash or an After at each Delete: those ahead of it, by the list's order, are gone and forgotten.
func TestTheOrderOfDeletes(t *testing.T) {
	for _, kind := range []int{api.Crash, api.After, api.Torn} {
		for at := 0; ; at++ {
			o := layOrchard(t, 256, 256)
			for _, h := range o.blobs() {
				o.read(h)
			}
			all := o.blobs()
			unspared := lack(all, o.two.keys)
			if at == len(unspared) {
				break
			}
			cached, bad := o.s.Cached(), o.s.Quarantine()
			o.choose(honest(1+at, choice(kind, 3))...)
			o.sweeps("21.2: a crash", nil, []api.Hash{o.two.root}, api.Swept{}, api.ErrDown, accesses(0, at+1)+"-")
			gone := unspared[:at]
			o.state("21.2: a crash: what was deleted ahead of it is forgotten", lack(cached, gone), lack(bad, gone))
			if kind == api.After {
				gone = unspared[:at+1]
			}
			o.has("21.2: a crash: what was deleted ahead of it is gone", lack(all, gone)...)
			o.up()
			left := len(lack(unspared, gone))
			o.sweeps("21.2: up again", nil, []api.Hash{o.two.root}, api.Swept{Live: len(o.two.keys), Deleted: left}, api.OK, accesses(0, left))
			o.has("21.4: up again", o.two.keys...)
		}
	}
}

// A Delete that is not done and answers OK counts as done, and what it was about is forgotten.
func TestDeletesThatAreNotDone(t *testing.T) {
	for _, kind := range []int{api.Drop, api.Replay} {
		o := layOrchard(t, 256, 256)
		for _, h := range o.blobs() {
			o.read(h)
		}
		unspared := lack(o.blobs(), o.two.keys)
		cached, bad := o.s.Cached(), o.s.Quarantine()
		o.choose(honest(2, choice(kind, 0), choice(api.Honest, 0), choice(kind, 1))...)
		want := api.Swept{Live: len(o.two.keys), Deleted: len(unspared)}
		o.sweeps("21.2: not done", nil, []api.Hash{o.two.root}, want, api.OK, accesses(0, want.Deleted))
		left := []api.Hash{unspared[1], unspared[3]}
		o.has("21.2: not done", join(o.two.keys, left)...)
		o.state("21.2: not done", lack(cached, unspared), lack(bad, unspared))
		want.Deleted = 2
		o.sweeps("21.2: the next time", nil, []api.Hash{o.two.root}, want, api.OK, accesses(0, 2))
		o.has("21.4: the next time", o.two.keys...)
	}
}

// A list that was altered names what is not there, or what is live, or one key twice.
func TestAlteredLists(t *testing.T) {
	live := leaf("12", long)
	l := hashOf(256, live)
	keys := []api.Hash{{0x10}, {0x20}, {0x30}}
	// turned makes the device tell this byte of the list turned by so much
	turned := func(at int, by byte) []api.Choice {
		return honest(1, api.Choice{Kind: api.Alter, N: at, M: int(by) - 1})
	}
	lay := func() *rig {
		r := lay(t, 9, 256, 0)
		for _, k := range keys {
			r.put(k, "a stray")
		}
		return r
	}
	r := lay()
	r.put(l, live)
	at := 32 * slices.Index(r.blobs(), l)
	r.choose(turned(at+31, 0xff)...)
	r.sweeps("21.3: a live key is turned into one that is not there", nil, []api.Hash{l}, api.Swept{Live: 1, Deleted: 3}, api.OK, "get list "+slotOrder(r, l))
	r.has("21.3: a live key is turned", l)

	r = lay()
	r.put(l, live)
	other := 32 * slices.Index(r.blobs(), keys[0])
	r.choose(turned(other, 1)...)
	r.sweeps("21.2: a stray is turned into a key that is not there", nil, []api.Hash{l}, api.Swept{Live: 1, Deleted: 2}, api.OK, "get list delete- delete delete")
	r.has("21.2: a stray is turned", l, keys[0])

	r = lay()
	r.choose(choice(api.Alter, 0)) // the first one's first byte is turned by 1
	r.sweeps("21.2: kept under its right name alone", keys[:1], nil, api.Swept{Deleted: 2}, api.OK, "list delete- delete delete")
	r.has("21.2: kept under its right name alone", keys[0])

	r = lay()
	r.choose(api.Choice{Kind: api.Alter, N: 0, M: 0x30 - 1}) // 10 becomes 20: 20 20 30
	r.sweeps("21.2: one key is listed twice", nil, nil, api.Swept{Deleted: 2}, api.OK, "list delete delete- delete")
	r.has("21.2: one key is listed twice", keys[0])

	r = lay()
	r.choose(api.Choice{Kind: api.Alter, N: 0, M: 0x30 - 1}, choice(api.Drop, 0))
	r.sweeps("21.2: twice, the first Delete is not done", nil, nil, api.Swept{Deleted: 3}, api.OK, "list delete delete delete")
	r.has("21.2: twice, the first Delete is not done", keys[0])

	r = lay()
	r.choose(api.Choice{Kind: api.Alter, N: 64, M: 0x20 - 1}, choice(api.Honest, 0), choice(api.Honest, 0), choice(api.Crash, 0)) // 30 becomes 10: 10 20 10
	r.sweeps("21.2: out of its order", nil, nil, api.Swept{}, api.ErrDown, "list delete delete delete-")
	r.has("21.2: out of its order", keys[2])

	r = lay()
	r.choose(api.Choice{Kind: api.Alter, N: 0, M: 0xe0 - 1}, choice(api.Honest, 0), choice(api.Honest, 0), choice(api.Crash, 0)) // 10 becomes f0: f0 20 30
	r.sweeps("21.2: out of its order", nil, nil, api.Swept{}, api.ErrDown, "list delete- delete delete-")
	r.has("21.2: by the list's order", keys[0], keys[2])

	r = lay()
	r.choose(api.Choice{Kind: api.Alter, N: 32, M: 0x30 - 1}) // 20 becomes 10, which is kept
	r.sweeps("21.3: a stray is turned into what is kept", keys[:1], nil, api.Swept{Deleted: 1}, api.OK, "list delete")
	r.has("21.3: a stray is turned into what is kept", keys[0], keys[1])
}

// slotOrder is the deletes of all listed keys, of which this one is not there by the name under which it was listed.
func slotOrder(r *rig, absent api.Hash) string {
	var out []string
	for _, h := range r.blobs() {
		if h == absent {
			out = append(out, "delete-")
		} else {
			out = append(out, "delete")
		}
	}
	return strings.Join(out, " ")
}

// An earlier list names what is there no more, and leaves out what came later.
func TestReplayedLists(t *testing.T) {
	r := lay(t, 9, 256, 4)
	for _, x := range []byte{1, 2, 3} {
		r.put(key(x), "a stray")
	}
	r.lose(key(1))
	r.put(key(4), "a later one")
	r.read(key(1))
	r.read(key(4))
	r.choose(choice(api.Replay, 2)) // ahead of the last two changes
	r.sweeps("21.2: an earlier list", nil, nil, api.Swept{Deleted: 2}, api.OK, "list delete- delete delete")
	r.has("21.2: an earlier list", key(4))
	r.state("21.2: what was absent is not forgotten", nil, []api.Hash{key(1), key(4)})
	r.sweeps("21.2: the next time", nil, nil, api.Swept{Deleted: 1}, api.OK, "list delete")
	r.state("21.2: the next time", nil, []api.Hash{key(1)})
}

// A rollback at the List, or at a Delete, brings back what was there: it is listed, or left for the next time.
func TestRollbacks(t *testing.T) {
	r := lay(t, 9, 256, 0)
	for _, x := range []byte{1, 2, 3} {
		r.put(key(x), "a stray")
	}
	r.lose(key(1))
	r.choose(choice(api.Rollback, 1))
	r.sweeps("21.2: a rollback at the List", nil, nil, api.Swept{Deleted: 3}, api.OK, "list delete delete delete")
	r.has("21.2: a rollback at the List")
	for _, x := range []byte{1, 2, 3} {
		r.put(key(x), "a stray")
	}
	r.choose(honest(2, choice(api.Rollback, 1))...)
	r.sweeps("21.2: a rollback at the second Delete", nil, nil, api.Swept{Deleted: 3}, api.OK, "list delete delete delete")
	r.has("21.2: a rollback at the second Delete", key(1))
	r.choose(choice(api.Honest, 0), choice(api.Rollback, 2))
	r.sweeps("21.2: a rollback to where it was gone and others were there", nil, nil, api.Swept{}, api.OK, "list delete-")
	r.has("21.2: a rollback to where it was gone and others were there", key(2), key(3))
}

// By a book that hashes otherwise than the store's no node is right, though the store has looked at it; and what is read is hashed by the book that was handed in.
func TestAnotherBook(t *testing.T) {
	o := layOrchard(t, 256, 4)
	was := o.blobs()
	narrow := newBook(t, 40)
	if got, e := sweep.Sweep(o.d, o.s, narrow, nil, o.two.root); e != api.ErrNode || got != (api.Swept{}) || !slices.Equal(o.blobs(), was) {
		t.Errorf("21.2: by another book: %+v, %d", got, e)
	}
	if l, e := sweep.Mark(o.s, narrow, o.two.root); e != api.ErrNode || len(l) != 0 {
		t.Errorf("21.1: by another book: %d, %d", len(l), e)
	}
	same := newBook(t, 256)
	got, e := sweep.Sweep(o.d, o.s, same, nil, o.two.root)
	if e != api.OK || got.Live != len(o.two.keys) || !slices.Equal(o.blobs(), o.two.keys) {
		t.Errorf("21.2: by a book that hashes likewise: %+v, %d", got, e)
	}
	for _, b := range o.two.blobs {
		if !hasHashed(same, string(b.Data)) {
			t.Errorf("R7: %.20x was read as right and never hashed by this book", b.Data)
		}
	}
}

// A store over another device: R1 holds.
func TestAStoreOverAnotherDevice(t *testing.T) {
	o, other := layOrchard(t, 256, 4), layOrchard(t, 256, 4)
	other.plant(map[string]string{"another": long, "map": long})
	for _, roots := range [][]api.Hash{nil, {o.two.root}, {key(3)}} {
		for kind := range api.Choices {
			other.d.Choose(honest(kind, choice(kind, 2))...)
			sweep.Sweep(other.d, o.s, o.book, o.one.keys, roots...)
			other.d.Up()
		}
	}
	if !slices.Equal(o.d.Accesses()[:len(o.twin.Accesses())], o.twin.Accesses()) || !slices.Equal(o.blobs(), union(o.one.keys, o.two.keys, o.strays)) {
		t.Errorf("R5: a device that was not handed in is written to")
	}
}

// Log and register stay as they are, and no access touches them.
func TestLogAndRegisterStay(t *testing.T) {
	o := layOrchard(t, 256, 0)
	was := o.d.Media()
	o.sweep(nil, o.one.root)
	now := o.d.Media()
	if now.Reg != was.Reg || string(now.Log) != string(was.Log) || now.Slots != was.Slots || now.Room != was.Room {
		t.Errorf("21.2: %+v, not %+v", now, was)
	}
}

// Sweeping is no change of what is left: its bytes are as they were.
func TestWhatIsLeftIsAsItWas(t *testing.T) {
	o := layOrchard(t, 256, 0)
	o.sweep(o.strays, o.two.root)
	for _, b := range o.d.Media().Blobs {
		at := slices.Index(o.strays, b.Key)
		want := strings.Repeat("stray", max(at, 0))
		if at < 0 {
			want = string(o.two.blobs[slices.Index(o.two.keys, b.Key)].Data)
		}
		if string(b.Data) != want {
			t.Errorf("21.4: %x is %q, not %q", b.Key, b.Data, want)
		}
	}
	for _, m := range []trie{o.one, o.two} {
		if _, e := o.mark(m.root); (e == api.OK) != (m.root == o.two.root) {
			t.Errorf("21.3: %d", e)
		}
	}
}

// As many blobs as a device can have.
func TestAFullDevice(t *testing.T) {
	m := api.Media{Slots: api.MaxSlots}
	for i := range api.MaxSlots {
		m.Blobs = append(m.Blobs, api.Blob{Key: api.Hash{byte(i >> 8), byte(i)}, Data: []byte("a stray")})
	}
	r := layOver(t, m, 256, 0)
	got := r.sweep([]api.Hash{{1}, {2, 7}})
	if got.e != api.OK || got.swept.Deleted != api.MaxSlots-2 {
		t.Errorf("21.4: %+v", got)
	}
	r.has("21.4: a full device", api.Hash{1}, api.Hash{2, 7})
	if fmt.Sprint(got.asked[:2]) != fmt.Sprint([]api.Hash{{}, {0, 1}}) {
		t.Errorf("21.2: deleted first: %x", got.asked[:2])
	}
}
