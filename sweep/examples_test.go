package sweep_test

import (
	"testing"

	"cairn/api"
	"cairn/node"
	"cairn/sweep"
)

// The chapter's examples, by their numbers.

func TestExample1(t *testing.T) {
	s := newStand(t, 256)
	s.tells("example 1: no root", nil)
	s.tells("example 1: the empty trie's root", nil, node.Empty(s.book))
	r := s.lay(leaf("1234", "x"))
	s.tells("example 1: a leaf", []api.Hash{r}, r)
	s.tells("example 1: twice", []api.Hash{r}, r, r)
}

func TestExample2(t *testing.T) {
	o := layOrchard(t, 256, 0)
	o.sweep(nil, o.two.root)
	o.has("example 2", o.two.keys...)
	o = layOrchard(t, 256, 0)
	o.sweep([]api.Hash{o.one.root}, o.two.root)
	o.has("example 2: the first's root is kept", append([]api.Hash{o.one.root}, o.two.keys...)...)
}

func TestExample3(t *testing.T) {
	for at := range layOrchard(t, 256, 0).two.keys {
		o := layOrchard(t, 256, 0)
		b := o.two.blobs[at]
		wrong := append([]byte{b.Data[0] ^ 1}, b.Data[1:]...)
		o.put(b.Key, string(wrong))
		was := o.blobs()
		n := len(o.d.Accesses())
		if got := o.sweep(nil, o.two.root); got.e != api.ErrNode || got.swept != (api.Swept{}) {
			t.Errorf("example 3: %+v", got)
		}
		for _, a := range o.d.Accesses()[n:] {
			if a.Kind != api.AccGet {
				t.Errorf("example 3: an access of the kind %d", a.Kind)
			}
		}
		o.has("example 3", was...)
	}
}

func TestExample4(t *testing.T) {
	o := layOrchard(t, 256, 256)
	for _, h := range o.blobs() {
		o.read(h)
	}
	all, cached, bad := o.blobs(), o.s.Cached(), o.s.Quarantine()
	gone := lack(all, o.two.keys)[:2]
	o.choose(honest(3, choice(api.Crash, 0))...)
	o.sweeps("example 4", nil, []api.Hash{o.two.root}, api.Swept{}, api.ErrDown, "list delete delete delete-")
	o.has("example 4: the two ahead of it are gone", lack(all, gone)...)
	o.state("example 4: and forgotten", lack(cached, gone), lack(bad, gone))

	o = layOrchard(t, 256, 0)
	all = o.blobs()
	dropped := lack(all, o.two.keys)[2]
	o.choose(honest(len(o.two.keys)+3, choice(api.Drop, 0))...)
	got := o.sweep(nil, o.two.root)
	if got.e != api.OK || got.swept.Deleted != len(lack(all, o.two.keys)) {
		t.Errorf("example 4: a Drop: %+v", got)
	}
	o.has("example 4: a Drop", append([]api.Hash{dropped}, o.two.keys...)...)
}

func TestExample5(t *testing.T) {
	o := layOrchard(t, 256, 0)
	if got, e := sweep.Sweep(nil, o.s, o.book, nil, o.two.root); e != api.ErrHandle || got != (api.Swept{}) {
		t.Errorf("example 5: %+v, %d", got, e)
	}
	o.look()
}
