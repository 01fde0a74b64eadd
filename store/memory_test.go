package store_test

import (
	"fmt"
	"math/rand"
	"slices"
	"strings"
	"sync"
	"testing"

	"cairn/api"
	"cairn/media"
	"cairn/store"
)

// What was handed to Put, Delete and Repair may be used for something else then: the batch, the record, the map and the device have what
// was handed in. (The rig looks at this at every call, too.)
func TestWhatIsHandedInIsNotKept(t *testing.T) {
	g := layGarden(t, 64, 60000, 8)
	s := g.stores[0]
	memory := []byte("key and value and spare room")
	if e := s.Put(memory[:3], memory[8:13]); e != api.OK {
		t.Fatal(e)
	}
	if string(memory) != "key and value and spare room" {
		t.Errorf("R3: %q", memory)
	}
	fill(memory, 'x')
	if e := s.Delete(memory[:2]); e != api.OK || string(memory) != strings.Repeat("x", 28) {
		t.Fatal(e, memory)
	}
	fill(memory, 'y')
	if _, e := s.Commit(); e != api.OK {
		t.Fatal(e)
	}
	l, e := s.History()
	if c := l[len(l)-1].Changes; e != api.OK || string(c[0].Key) != "key" || string(c[0].Value) != "value" || string(c[1].Key) != "xx" || !c[1].Gone {
		t.Errorf("R3: the record has %+v", c)
	}
	if v, found, e := s.Get([]byte("key")); string(v) != "value" || !found || e != api.OK {
		t.Errorf("R3: %q, %d", v, e)
	}
	g.d.Choose(honest(1, choice(api.Drop, 0))...)
	s.Scrub(1)
	bad := s.Report().Quarantine[0]
	var encoding []byte
	for _, b := range g.d.Media().Blobs {
		if b.Key == bad {
			encoding = append(slices.Clone(b.Data), "spare room"...)
		}
	}
	was := string(encoding)
	if e := s.Repair(encoding[:len(encoding)-10]); e != api.OK || string(encoding) != was {
		t.Fatalf("R3: %d", e)
	}
	fill(encoding, 0x66)
	if p, e := s.Scrub(9); e != api.OK || p.Bad != 0 || len(s.Report().Quarantine) != 0 {
		t.Errorf("R3: %+v, %d", p, e)
	}
}

// What is refused is not changed either: by a store that is able, by one that the register has left behind, by one that has failed.
func TestWhatIsRefusedIsNotChanged(t *testing.T) {
	for _, how := range []string{"able", "stale", "failed"} {
		for _, a := range append(every(), wrong()...) {
			g := layGarden(t, 64, 60000, 8)
			if how != "able" {
				g.aside("the register is set", func(d *media.Device) { d.SetReg(api.Register{Count: 99}) })
			}
			if how == "failed" {
				g.stores[0].Root()
			}
			h := &hand{}
			a.do(h, g.stores[0])
			if text := h.back(); text != "" {
				t.Errorf("R3: %s: %s: %s", how, a.name, text)
			}
		}
	}
}

// What is handed out may be written over, and no two lists of one answer share memory: the next answer is the same.
func TestWhatIsHandedOutIsNew(t *testing.T) {
	for _, cache := range []int{0, 8} {
		g := layGarden(t, 64, 60000, cache)
		g.does(0, scrubs(1))
		g.choose(honest(2, choice(api.Drop, 0), choice(api.Drop, 0))...)
		g.does(0, root(), scrubs(2))
		s := g.stores[0]
		for range 3 {
			v, _, _ := s.Get([]byte("\x11\x11"))
			l, _, _ := s.Scan(all, 9)
			p, _ := s.Prove([]byte("\x21"))
			q, _ := s.ProveSpan(all)
			x := s.Report()
			r, _ := s.History()
			if string(v) != long+"A" || string(p) != g.packed("top fork c") || string(q) != g.packed(inOrder) {
				t.Errorf("R3: %q, %x, %x", v, p, q)
			}
			if len(x.Quarantine) > 2 || !slices.IsSortedFunc(x.Quarantine, func(a, b api.Hash) int { return strings.Compare(string(a[:]), string(b[:])) }) {
				t.Errorf("R3: %.3x", x.Quarantine)
			}
			if len(r) != 2 || len(r[1].Changes) != 5 || string(r[1].Changes[4].Key) != "\x22\x33" {
				t.Errorf("R3: %+v", r)
			}
			// Each list is marked in its turn, spare room too: a list that shares memory with one behind it shows the other's mark.
			var lists [][]byte
			for _, e := range l {
				lists = append(lists, e.Key, e.Value)
			}
			for _, c := range r[1].Changes {
				lists = append(lists, c.Key, c.Value)
			}
			lists = append(lists, v, p, q)
			for i, b := range lists {
				fill(b, byte(i))
			}
			for i, b := range lists {
				if strings.Trim(string(b[:cap(b)]), string([]byte{byte(i)})) != "" {
					t.Errorf("R3: list %d shares memory", i)
				}
			}
			clear(x.Quarantine[:cap(x.Quarantine)])
			clear(r[1].Changes[:cap(r[1].Changes)])
			clear(r[:cap(r)])
			clear(l[:cap(l)])
		}
		d, _ := media.Load(g.d.Media())
		if x, e := store.Open(d, newBook(t, 256, 256), 0); e != api.OK {
			t.Errorf("R3: %d", e)
		} else if l, _, e := x.Scan(all, 9); e != api.OK || shown(l) != shown(listed(planted())) {
			t.Errorf("R3: %d", e)
		}
	}
}

// A list without elements may be nil or not.
func TestNilAndEmptyAreOne(t *testing.T) {
	var answers []string
	for _, none := range [][]byte{nil, {}, make([]byte, 0, 9)} {
		g := layGarden(t, 64, 60000, 8)
		s := g.stores[0]
		v, found, e := s.Get(none)
		l, more, f := s.Scan(api.Bounds{From: none, To: none, Open: true}, 9)
		n, _, _ := s.Scan(api.Bounds{From: none, To: none}, 9)
		p, h := s.Prove(none)
		q, i := s.ProveSpan(api.Bounds{From: none, To: none, Open: true})
		said := fmt.Sprintf("%q %v %d %s %v %d %d %x %d %x %d", v, found, e, shown(l), more, f, len(n), p, h, q, i)
		said += fmt.Sprint(s.Put(none, []byte("v")), s.Put([]byte("k"), none), s.Delete(none), s.Repair(none))
		r, e := s.Commit()
		answers = append(answers, fmt.Sprintf("%s %x %d %d", said, r, e, len(g.d.Accesses())))
	}
	if answers[0] != answers[1] || answers[1] != answers[2] {
		t.Errorf("R4: %s", strings.Join(answers, "\n"))
	}
}

// What calls answer hangs on what was done to device, store and book alone.
func TestSideBySide(t *testing.T) {
	said := make([]string, 8)
	var all sync.WaitGroup
	for i := range said {
		all.Go(func() {
			rnd := rand.New(rand.NewSource(7))
			keys := someKeys(rnd)
			d, _ := media.New(60, 2000)
			book := newBook(t, 14, 20)
			for range 12 {
				d.Up()
				s, e := store.Open(d, book, 3)
				said[i] += fmt.Sprint(e)
				if s == nil {
					continue
				}
				for range 30 {
					if rnd.Intn(9) == 0 {
						d.Choose(honest(rnd.Intn(9), api.Choice{Kind: rnd.Intn(api.Choices), N: rnd.Intn(99), M: rnd.Intn(99)})...)
					}
					key, value := some(rnd, keys), someValue(rnd)
					for _, a := range []ask{lays(key, value), deletes(some(rnd, keys)), commit(), get(some(rnd, keys)), scan(open(key), 5), proveSpan(open(key)), history(), scrubs(2), sweeps(), report()} {
						if rnd.Intn(3) == 0 {
							answer, e := a.do(&hand{}, s)
							said[i] += fmt.Sprintln(answer, e)
						}
					}
				}
			}
			said[i] += fmt.Sprint(d.Accesses(), d.Media())
		})
	}
	all.Wait()
	for i := range said {
		if said[i] != said[0] {
			t.Fatalf("R5: the same was done, and the answer is another")
		}
	}
}
