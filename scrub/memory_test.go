package scrub_test

import (
	"fmt"
	"math/rand"
	"sync"
	"testing"

	"cairn/api"
	"cairn/digest"
	"cairn/hstore"
	"cairn/media"
	"cairn/scrub"
)

// What was handed to Repair may be used for something else then: what the device has stays. (That it is unchanged, its spare room too, the rig looks at at every repair.)
func TestWhatIsRepairedIsNotKept(t *testing.T) {
	g := layGarden(t, 256, 256)
	g.lose(g.hashes["fork"])
	g.begin(g.hashes["top"]).step(9)
	memory := []byte(g.nodes["fork"] + "spare room")
	b := memory[:len(g.nodes["fork"])]
	if e := scrub.Repair(g.s, b); e != api.OK || string(memory) != g.nodes["fork"]+"spare room" {
		t.Fatalf("R3: %d", e)
	}
	fill(memory, 0x66)
	for range 2 {
		if got, e := g.s.Fresh(g.hashes["fork"]); e != api.OK || string(got) != g.nodes["fork"] {
			t.Errorf("R3: what was handed in is kept: %.20x, %d", got, e)
		} else {
			fill(got, 0x77)
		}
	}
	if e := scrub.Repair(g.s, b); e != api.ErrShape {
		t.Errorf("22.4: %d", e)
	}
}

// Bytes that are refused are not changed either, nor kept.
func TestWhatIsRefusedIsNotChanged(t *testing.T) {
	g := layGarden(t, 256, 256)
	for _, b := range append(noNodes(), g.nodes["top"]) {
		memory := []byte(b + "spare")
		scrub.Repair(g.s, memory[:len(b)])
		if string(memory) != b+"spare" {
			t.Errorf("R3: %.20x is changed", b)
		}
	}
	g.look()
}

// A list without elements may be nil or not.
func TestNilAndEmptyAreOne(t *testing.T) {
	g := layGarden(t, 256, 4)
	for _, b := range [][]byte{nil, {}, make([]byte, 0, 9)} {
		if e := scrub.Repair(g.s, b); e != api.ErrShape {
			t.Errorf("R4: %d", e)
		}
	}
	g.look()
}

// What calls answer hangs on what was done to device, store and book alone.
func TestSideBySide(t *testing.T) {
	rnd := rand.New(rand.NewSource(5))
	m := trieOf(t, 256, someMap(rnd, 40))
	for len(m.keys) < 12 {
		m = trieOf(t, 256, someMap(rnd, 40))
	}
	said := make([]string, 8)
	var all sync.WaitGroup
	for i := range said {
		all.Go(func() {
			rnd := rand.New(rand.NewSource(7))
			d, _ := media.New(400, 0)
			book, _ := digest.New(256, 256, make([]byte, 32))
			s, _ := hstore.New(d, book, 5)
			for range 60 {
				for _, b := range m.blobs {
					d.Put(b.Key, b.Data)
				}
				x, _ := scrub.New(s, book, m.root)
				d.Choose(someChoices(rnd)...)
				for range 8 {
					p, e := x.Step(1 + rnd.Intn(9))
					f := scrub.Repair(s, some(rnd, m.blobs).Data)
					said[i] += fmt.Sprint(p, e, f, x.Pass(), s.Cached(), s.Quarantine())
				}
				d.Up()
			}
			said[i] += fmt.Sprint(d.Accesses(), d.Media())
		})
	}
	all.Wait()
	for i := range said {
		if said[i] != said[0] {
			t.Fatalf("R5: the same was done, and the answer is another")
		}
	}
}

// Stores of their own may be scrubbed with one book at one time.
func TestOneBookAtOneTime(t *testing.T) {
	m := trieOf(t, 256, map[string]string{"\x11\x11": long, "\x11\x22": long + "!", "\x21": long + "?", "\x33\x44": "short"})
	book := newBook(t, 256)
	var all sync.WaitGroup
	wrong := make([]string, 8)
	for i := range wrong {
		all.Go(func() {
			for at := range 30 {
				lost := m.blobs[at%len(m.blobs)]
				d, _ := media.Load(api.Media{Slots: 40, Blobs: m.blobs})
				d.Delete(lost.Key)
				s, _ := hstore.New(d, book, 3)
				x, _ := scrub.New(s, book, m.root)
				one, e := x.Step(99)
				f := scrub.Repair(s, lost.Data)
				x, _ = scrub.New(s, book, m.root)
				two, g := x.Step(99)
				if one.Bad != 1 || !one.Done || two != (api.Pass{Seen: len(m.keys), Done: true}) || e != api.OK || f != api.OK || g != api.OK {
					wrong[i] = fmt.Sprint(one, e, f, two, g)
				}
			}
		})
	}
	all.Wait()
	for _, w := range wrong {
		if w != "" || !book.Sound() {
			t.Errorf("R5: %s", w)
		}
	}
}
