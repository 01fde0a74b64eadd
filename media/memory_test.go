package media_test

import (
	"bytes"
	"fmt"
	"math/rand"
	"slices"
	"sync"
	"testing"

	"cairn/api"
	"cairn/media"
)

// roomy tells a copy of bytes whose spare room is filled with marks.
func roomy(b []byte) []byte {
	return append(append([]byte{}, b...), 7, 201, 0, 32, 255, 16, 9, 204)[:len(b)]
}

// whole tells a copy of bytes, spare room too.
func whole(b []byte) []byte {
	return append([]byte{}, b[:cap(b)]...)
}

// fill writes one byte all over a list and its spare room.
func fill(b []byte, c byte) {
	for i := range b[:cap(b)] {
		b[:cap(b)][i] = c
	}
}

// shared writes a mark of its own into each list, spare room too, and tells whether one of them has lost its mark.
func shared(all [][]byte) bool {
	for i, b := range all {
		fill(b, byte(i))
	}
	for i, b := range all {
		for _, c := range b[:cap(b)] {
			if c != byte(i) {
				return true
			}
		}
	}
	return false
}

// roomyMedia tells what a device may be loaded with, with marks in all spare room.
func roomyMedia() api.Media {
	m := full()
	m.Slots, m.Room, m.Log = 5, 20, roomy(m.Log)
	for i := range m.Blobs {
		m.Blobs[i].Data = roomy(m.Blobs[i].Data)
	}
	m.Blobs = append(m.Blobs, api.Blob{Key: key(200), Data: []byte("spare")})[:3]
	return m
}

// bytesOf tells all lists of bytes of a media.
func bytesOf(m api.Media) [][]byte {
	out := [][]byte{m.Log}
	for _, b := range m.Blobs {
		out = append(out, b.Data)
	}
	return out
}

func TestWhatIsWrittenStaysAndIsNotKept(t *testing.T) {
	for kind := range api.Choices {
		for n := range 4 {
			b := loadBoth(t, full())
			b.all(trim(3))
			for _, text := range []string{"", "x", "xyz", "too much of it"} {
				data := roomy([]byte(text))
				before := whole(data)
				b.choose(choice(kind, n, n), choice(kind, n, n))
				b.d.Put(key(1), data)
				b.m.do(put(key(1), text))
				b.up()
				b.d.Append(data)
				b.m.do(add(text))
				b.up()
				if !bytes.Equal(whole(data), before) {
					t.Errorf("R3: Put or Append by a choice of kind %d has changed what it was handed", kind)
				}
				fill(data, 99)
				b.look("R3")
				b.probe("R3")
			}
		}
	}
}

func TestWhatIsLoadedStaysAndIsNotKept(t *testing.T) {
	m := roomyMedia()
	var before [][]byte
	for _, b := range bytesOf(m) {
		before = append(before, whole(b))
	}
	list := slices.Clone(m.Blobs[:cap(m.Blobs)])
	b := loadBoth(t, m)
	b.all(put(key(1), "new"), add("efgh"), trim(2), cut(1), drop(lastKey(2)), add("ijkl"), set(9, 9))
	b.by(rollback(5), read())
	b.by(alter(0, 0), get(key(1)))
	for i, x := range bytesOf(m) {
		if !bytes.Equal(whole(x), before[i]) {
			t.Errorf("R3: Load, or a device that was loaded, has changed list number %d of what was handed in", i)
		}
	}
	for i, x := range m.Blobs[:cap(m.Blobs)] {
		if x.Key != list[i].Key || len(x.Data) != len(list[i].Data) {
			t.Errorf("R3: Load has changed blob number %d of what was handed in", i)
		}
	}
	for _, x := range bytesOf(m) {
		fill(x, 99)
	}
	clear(m.Blobs[:cap(m.Blobs)])
	b.look("R3")
	b.probe("R3")
}

func TestChoicesStayAndAreNotKept(t *testing.T) {
	own := []api.Choice{choice(api.Drop, 1, 2), alter(1, 0), choice(api.Crash, 0, 0), choice(api.Drop, 9, 9)}
	makers := map[string]func(l []api.Choice) *media.Device{
		"New": func(l []api.Choice) *media.Device {
			d, _ := media.New(3, 4, l...)
			return d
		},
		"Load": func(l []api.Choice) *media.Device {
			d, _ := media.Load(full(), l...)
			return d
		},
		"Choose": func(l []api.Choice) *media.Device {
			d, _ := media.Load(full())
			d.Choose(l...)
			return d
		},
	}
	for name, maker := range makers {
		l := slices.Clone(own)
		d := maker(l[:2])
		d.Read()
		if !slices.Equal(l, own) {
			t.Errorf("R3: %s has changed the choices", name)
		}
		clear(l)
		d.Read()
		d.Read()
		got := d.Accesses()
		if want := []api.Access{{Kind: 5, Choice: 2, Done: true}, {Kind: 5, Choice: 1, Done: true}, {Kind: 5, Done: true}}; !slices.Equal(got, want) {
			t.Errorf("R3: %s keeps the list of choices itself: %v", name, got)
		}
	}
}

// handed is all that a device hands out in one round of calls.
type handed struct {
	bytes    [][]byte
	keys     []api.Hash
	blobs    []api.Blob
	accesses []api.Access
}

func handOut(d *media.Device) handed {
	var h handed
	for _, k := range someKeys() {
		b, _ := d.Get(k)
		h.bytes = append(h.bytes, b)
	}
	b, _ := d.Read()
	h.keys, _ = d.List()
	m := d.Media()
	h.bytes, h.blobs, h.accesses = append(append(h.bytes, b), bytesOf(m)...), m.Blobs, d.Accesses()
	return h
}

// spoil writes a mark all over what was handed out, spare room too.
func (h handed) spoil(mark byte) {
	for i := range h.keys[:cap(h.keys)] {
		h.keys[:cap(h.keys)][i] = key(mark)
	}
	for i := range h.blobs[:cap(h.blobs)] {
		h.blobs[:cap(h.blobs)][i] = api.Blob{Key: key(mark)}
	}
	for i := range h.accesses[:cap(h.accesses)] {
		h.accesses[:cap(h.accesses)][i] = api.Access{Kind: int(mark)}
	}
	for _, b := range h.bytes {
		fill(b, mark)
	}
}

// spoilt tells whether all still has the mark.
func (h handed) spoilt(mark byte) bool {
	for _, k := range h.keys[:cap(h.keys)] {
		if k != key(mark) {
			return false
		}
	}
	for _, b := range h.blobs[:cap(h.blobs)] {
		if b.Key != key(mark) {
			return false
		}
	}
	for _, a := range h.accesses[:cap(h.accesses)] {
		if a.Kind != int(mark) {
			return false
		}
	}
	return true
}

func TestWhatIsHandedOutIsNew(t *testing.T) {
	for _, kind := range []int{api.Honest, api.Alter, api.Drop, api.Replay} {
		for n := range 8 {
			b := loadBoth(t, full())
			b.all(put(key(1), "one"), put(key(1), "two"), cut(1), add("xy"), put(key(1), "three"), drop(lastKey(2)), trim(1), add("z"))
			b.by(rollback(n), list()) // then all tell one and the same time
			was, accesses := b.d.Media(), b.d.Accesses()
			b.choose(repeat(choice(kind, n, n), 100)...)
			first, second := handOut(b.d), handOut(b.d)
			first.spoil(77)
			second.spoil(78)
			if !first.spoilt(77) || shared(append(first.bytes, second.bytes...)) {
				t.Errorf("R3: two answers by a choice of kind %d share memory", kind)
			}
			if got := b.d.Accesses(); !sameMedia(b.d.Media(), was) || !slices.Equal(got[:len(accesses)], accesses) || len(got) != len(accesses)+20 {
				t.Errorf("R3: the device shares memory with what it hands out by a choice of kind %d", kind)
			}
			b.m.accesses = b.d.Accesses()
			b.choose()
			b.probe("R3")
		}
	}
}

func TestListsOfOneAnswerShareNothing(t *testing.T) {
	d, _ := media.Load(full())
	d.Put(key(3), []byte("x"))
	d.Put(lastKey(1), []byte("x"))
	m := d.Media()
	if shared(bytesOf(m)) {
		t.Errorf("R3: two lists of Media() share memory")
	}
}

func TestNilAndEmptyAreOne(t *testing.T) {
	for _, none := range [][]byte{nil, {}, make([]byte, 0, 9)} {
		d, e := media.Load(api.Media{Slots: 2, Room: 2, Blobs: []api.Blob{{Key: key(1), Data: none}}, Log: none})
		if e != api.OK {
			t.Fatalf("R4: Load: %d", e)
		}
		f, g := d.Put(key(2), none), d.Append(none)
		b, h := d.Get(key(2))
		if f != api.OK || g != api.OK || h != api.OK || len(b) != 0 || len(d.Media().Blobs) != 2 {
			t.Errorf("R4: %d, %d, %d, %q", f, g, h, b)
		}
		d.Choose(rollback(1))
		if _, e := d.Get(key(2)); e != api.ErrAbsent {
			t.Errorf("P8.5: the putting of an empty blob is no change: %d", e)
		}
		d.Put(key(1), nil)
		d.Put(key(1), []byte{})
		d.Choose(replay(3))
		if l, _ := d.List(); len(l) != 1 {
			t.Errorf("R4: an empty blob behind an empty blob is a change: %v", l)
		}
	}
}

func TestDevicesShareNothing(t *testing.T) {
	m := roomyMedia()
	a, b := loadBoth(t, m), loadBoth(t, m)
	c := loadBoth(t, a.d.Media())
	for seed := range 6 {
		for i, x := range []*both{a, b, c} {
			x.wander(rand.New(rand.NewSource(int64(10*seed+i))), 20, 5)
		}
	}
	for _, x := range []*both{a, b, c} {
		x.probe("R5")
	}
}

func TestSideBySide(t *testing.T) {
	m := roomyMedia()
	told := make([]string, 16)
	var all sync.WaitGroup
	for i := range told {
		all.Go(func() {
			d, _ := media.Load(m, alter(1, 1), replay(1), rollback(1), torn(1))
			r := rand.New(rand.NewSource(5))
			for range 300 {
				told[i] += fmt.Sprint(ask(d, someOp(r, 9)))
				d.Up()
				if r.Intn(9) == 0 {
					d.Choose(someChoice(r), someChoice(r))
				}
			}
			told[i] += fmt.Sprint(d.Media(), d.Accesses())
		})
	}
	all.Wait()
	for i := range told {
		if told[i] != told[0] {
			t.Fatalf("R5: two devices that were done the same to answer otherwise")
		}
	}
}

func TestLongLogs(t *testing.T) {
	b := newBoth(t, 1, 1<<20)
	text := func(n int, c byte) string { return string(bytes.Repeat([]byte{c}, n)) }
	b.all(add(text(1000, 'a')), add(text(1000, 'b')), cut(500), add(text(100, 'c')), trim(300), add(text(7, 'd')))
	b.by(rollback(3), add(text(50, 'e')))
	b.all(add(text(900, 'f')), cut(100))
	b.by(torn(60), add(text(100, 'g')))
	b.up()
	b.by(rollback(9), add(text(1, 'h')))
	b.all(add(text(1, 'i')), add(text(1000000, 'j')))
	b.by(rollback(1), add(text(1, 'k')))
	b.all(add(text(1, 'l')), trim(1))
	b.probe("P8.5")
}
