package media_test

import (
	"math"
	"slices"
	"testing"

	"cairn/api"
	"cairn/media"
)

func TestErrorNumbers(t *testing.T) {
	got := []api.Errno{api.ErrHandle, api.ErrInput, api.ErrDown, api.ErrFull, api.ErrSlots, api.ErrAbsent, api.ErrOld, api.ErrRange}
	if want := []api.Errno{1, 2, 3, 6, 80, 81, 82, 83}; !slices.Equal(got, want) {
		t.Errorf("Errors: %v, not %v", got, want)
	}
}

// someLimits are limits around those of the chapter, and far beyond them.
func someLimits() []int {
	return []int{math.MinInt, -1, 0, 1, 2, 4095, 4096, 4097, 1<<20 - 1, 1 << 20, 1<<20 + 1, math.MaxInt}
}

func TestLimits(t *testing.T) {
	for _, slots := range someLimits() {
		for _, room := range someLimits() {
			well := slots >= 1 && slots <= 4096 && room >= 0 && room <= 1<<20
			want := api.ErrSlots
			if well {
				want = api.OK
			}
			d, e := media.New(slots, room)
			if e != want || (d != nil) != well {
				t.Errorf("P8.1: New(%d, %d) answers %d, not %d", slots, room, e, want)
			}
			l, e := media.Load(api.Media{Slots: slots, Room: room})
			if e != want || (l != nil) != well {
				t.Errorf("P8.2: Load of limits %d, %d answers %d, not %d", slots, room, e, want)
			}
			for _, x := range []*media.Device{d, l} {
				if m := x.Media(); well && !sameMedia(m, api.Media{Slots: slots, Room: room}) || x.Down() || len(x.Accesses()) != 0 {
					t.Errorf("P8.1: a new device of limits %d, %d has %+v", slots, room, m)
				}
			}
		}
	}
}

func TestLimitsAheadOfAllElse(t *testing.T) {
	wrong := api.Choice{Kind: -1}
	if d, e := media.New(0, 5, wrong); d != nil || e != api.ErrSlots {
		t.Errorf("P8.1: a limit and a choice that may not be: %d", e)
	}
	m := api.Media{Slots: 1, Room: -1, Blobs: make([]api.Blob, 2), Log: []byte("x"), Reg: api.Register{Count: -1}}
	if d, e := media.Load(m, wrong); d != nil || e != api.ErrSlots {
		t.Errorf("P8.2: nothing of it may be: %d", e)
	}
}

func TestTheLimitsAreTheDevices(t *testing.T) {
	for _, slots := range []int{1, 2, 4096} {
		d, _ := media.New(slots, 0)
		for i := range slots {
			if e := d.Put(api.Hash{byte(i), byte(i >> 8)}, nil); e != api.OK {
				t.Fatalf("P8.4: blob number %d of %d: %d", i, slots, e)
			}
		}
		if e := d.Put(api.Hash{31: 1}, nil); e != api.ErrFull {
			t.Errorf("P8.4: one blob more than %d: %d", slots, e)
		}
		if e := d.Put(api.Hash{}, []byte("x")); e != api.OK {
			t.Errorf("P8.4: a blob that is there already, of %d: %d", slots, e)
		}
	}
	for _, room := range []int{0, 1, 2, 1 << 20} {
		d, _ := media.New(1, room)
		if e := d.Append(make([]byte, room+1)); e != api.ErrFull {
			t.Errorf("P8.4: %d bytes in a room of %d: %d", room+1, room, e)
		}
		if e := d.Append(make([]byte, room)); e != api.OK {
			t.Errorf("P8.4: %d bytes in a room of %d: %d", room, room, e)
		}
		if e, f := d.Append([]byte{1}), d.Append(nil); e != api.ErrFull || f != api.OK {
			t.Errorf("P8.4: one byte more, none more in a room of %d: %d, %d", room, e, f)
		}
	}
}

// takers are the three calls that are handed choices.
func takers() map[string]func(choices ...api.Choice) api.Errno {
	of := func(d *media.Device, e api.Errno) api.Errno {
		if (d != nil) != (e == api.OK) {
			return -1
		}
		return e
	}
	return map[string]func(choices ...api.Choice) api.Errno{
		"New":  func(choices ...api.Choice) api.Errno { return of(media.New(1, 1, choices...)) },
		"Load": func(choices ...api.Choice) api.Errno { return of(media.Load(api.Media{Slots: 1, Room: 1}, choices...)) },
		"Choose": func(choices ...api.Choice) api.Errno {
			d, _ := media.New(1, 1)
			return d.Choose(choices...)
		},
	}
}

func TestChoicesThatMayBe(t *testing.T) {
	for name, take := range takers() {
		for _, kind := range []int{math.MinInt, -1, 0, 1, 2, 3, 4, 5, 6, 7, 8, 9, math.MaxInt} {
			for _, n := range []int{math.MinInt, -1, 0, 1, math.MaxInt} {
				for _, m := range []int{math.MinInt, -1, 0, 1, math.MaxInt} {
					want := api.OK
					if kind < 0 || kind > 7 || n < 0 || m < 0 {
						want = api.ErrInput
					}
					for at := range 3 {
						l := []api.Choice{{Kind: 1, N: 1, M: 1}, {Kind: 2, N: 2, M: 2}, {Kind: 7}}
						l[at] = choice(kind, n, m)
						if e := take(l...); e != want {
							t.Fatalf("P8.1: %s with %v: %d, not %d", name, l, e, want)
						}
					}
				}
			}
		}
	}
	if api.Choices != 8 {
		t.Errorf("P8.1: there are %d kinds", api.Choices)
	}
}

func TestHowManyChoices(t *testing.T) {
	for name, take := range takers() {
		for n, want := range map[int]api.Errno{0: api.OK, 1: api.OK, 4095: api.OK, 4096: api.OK, 4097: api.ErrInput, 10000: api.ErrInput} {
			if e := take(repeat(choice(api.Alter, 1, 1), n)...); e != want {
				t.Errorf("P8.1: %s with %d choices: %d, not %d", name, n, e, want)
			}
			if e := take(make([]api.Choice, n)...); e != want {
				t.Errorf("P8.1: %s with %d honest choices: %d, not %d", name, n, e, want)
			}
		}
	}
}

func TestAllChoicesAreMetInTheirOrder(t *testing.T) {
	var l []api.Choice
	for i := range 4096 {
		l = append(l, choice(api.Alter, i, 0))
	}
	d, e := media.Load(api.Media{Slots: 1, Room: 5000, Log: make([]byte, 5000)}, l...)
	if e != api.OK {
		t.Fatalf("P8.2: %d", e)
	}
	for i := range 4096 {
		b, e := d.Read()
		if e != api.OK || b[i] != 1 {
			t.Fatalf("P8.3: choice number %d was not met", i)
		}
	}
	if b, e := d.Read(); e != api.OK || slices.Contains(b, 1) {
		t.Errorf("P8.3: behind the end of the list it is not honest: %d", e)
	}
}

// full is what a device keeps that has all of it.
func full() api.Media {
	return api.Media{Slots: 3, Room: 4, Log: []byte("abcd"), Reg: api.Register{Count: 7, Tag: key(9)},
		Blobs: []api.Blob{{Key: key(1), Data: []byte("x")}, {Key: lastKey(1)}, {Key: lastKey(2), Data: []byte("yz")}}}
}

func TestLoad(t *testing.T) {
	long := func(n int) []api.Blob { return []api.Blob{{Key: key(1)}, {Key: key(2), Data: make([]byte, n)}} }
	keyed := func(keys ...api.Hash) []api.Blob {
		var out []api.Blob
		for _, k := range keys {
			out = append(out, api.Blob{Key: k, Data: k[:1]})
		}
		return out
	}
	for _, c := range []struct {
		what string
		f    func(m *api.Media)
		e    api.Errno
	}{
		{"all of it", func(m *api.Media) {}, api.OK},
		{"no blobs", func(m *api.Media) { m.Blobs = nil }, api.OK},
		{"an empty list of blobs", func(m *api.Media) { m.Blobs = []api.Blob{} }, api.OK},
		{"one blob more than slots", func(m *api.Media) { m.Slots = 2 }, api.ErrInput},
		{"more slots than blobs", func(m *api.Media) { m.Slots = 4096 }, api.OK},
		{"keys that fall", func(m *api.Media) { m.Blobs = keyed(key(2), key(1)) }, api.ErrInput},
		{"a key twice", func(m *api.Media) { m.Blobs = keyed(key(2), key(2)) }, api.ErrInput},
		{"a key twice, at the end", func(m *api.Media) { m.Blobs = keyed(key(1), key(2), key(2)) }, api.ErrInput},
		{"a key twice, with another between", func(m *api.Media) { m.Blobs = keyed(key(1), key(2), key(1)) }, api.ErrInput},
		{"keys that fall in their last byte", func(m *api.Media) { m.Blobs = keyed(lastKey(2), lastKey(1)) }, api.ErrInput},
		{"a first byte that rises, a last that falls", func(m *api.Media) { m.Blobs = keyed(key(1), lastKey(9), key(3)) }, api.OK},
		{"bytes above 127", func(m *api.Media) { m.Blobs = keyed(api.Hash{}, key(127), key(128)) }, api.OK},
		{"bytes above 127 that fall", func(m *api.Media) { m.Blobs = keyed(key(255), key(1)) }, api.ErrInput},
		{"the key of zeros alone", func(m *api.Media) { m.Blobs = keyed(api.Hash{}) }, api.OK},
		{"a blob of 1024 bytes", func(m *api.Media) { m.Blobs = long(1024) }, api.OK},
		{"a blob of 1025 bytes", func(m *api.Media) { m.Blobs = long(1025) }, api.ErrInput},
		{"a log of Room bytes", func(m *api.Media) { m.Room = 4 }, api.OK},
		{"a log of one byte more", func(m *api.Media) { m.Room = 3 }, api.ErrInput},
		{"a log without room", func(m *api.Media) { m.Room = 0 }, api.ErrInput},
		{"no log, no room", func(m *api.Media) { m.Room, m.Log = 0, nil }, api.OK},
		{"a greatest log", func(m *api.Media) { m.Room, m.Log = 1<<20, make([]byte, 1<<20) }, api.OK},
		{"Count -1", func(m *api.Media) { m.Reg.Count = -1 }, api.ErrInput},
		{"Count -1 and no tag", func(m *api.Media) { m.Reg = api.Register{Count: -1} }, api.ErrInput},
		{"the least Count", func(m *api.Media) { m.Reg.Count = math.MinInt64 }, api.ErrInput},
		{"Count 0 with a tag", func(m *api.Media) { m.Reg.Count = 0 }, api.ErrInput},
		{"Count 0 with a tag whose last byte alone is not 0", func(m *api.Media) { m.Reg = api.Register{Tag: api.Hash{31: 1}} }, api.ErrInput},
		{"Count 0 without a tag", func(m *api.Media) { m.Reg = api.Register{} }, api.OK},
		{"Count 1", func(m *api.Media) { m.Reg.Count = 1 }, api.OK},
		{"Count 1 without a tag", func(m *api.Media) { m.Reg = api.Register{Count: 1} }, api.OK},
		{"Count 2^40", func(m *api.Media) { m.Reg.Count = 1 << 40 }, api.OK},
		{"Count 2^40 + 1", func(m *api.Media) { m.Reg.Count = 1<<40 + 1 }, api.ErrInput},
		{"the greatest Count", func(m *api.Media) { m.Reg.Count = math.MaxInt64 }, api.ErrInput},
	} {
		m := full()
		c.f(&m)
		d, e := media.Load(m)
		if e != c.e || (d != nil) != (e == api.OK) {
			t.Errorf("P8.2: %s: %d, not %d", c.what, e, c.e)
		}
		if e != api.OK || d == nil {
			continue
		}
		if !sameMedia(d.Media(), m) || d.Down() || len(d.Accesses()) != 0 {
			t.Errorf("P8.2: %s: the device has other things", c.what)
		}
	}
}

func TestLoadOfAsManyBlobsAsThereCanBe(t *testing.T) {
	m := api.Media{Slots: 4096}
	for i := range 4096 {
		m.Blobs = append(m.Blobs, api.Blob{Key: api.Hash{byte(i >> 8), byte(i)}, Data: []byte{byte(i)}})
	}
	d, e := media.Load(m)
	if e != api.OK || !sameMedia(d.Media(), m) {
		t.Errorf("P8.2: 4096 blobs: %d", e)
	}
	m.Blobs = append(m.Blobs, api.Blob{Key: key(255)})
	if d, e := media.Load(m); d != nil || e != api.ErrInput {
		t.Errorf("P8.2: 4097 blobs: %d", e)
	}
}

func TestLoadHasOneVersionAndNoChange(t *testing.T) {
	b := loadBoth(t, full())
	b.probe("P8.2")
	for n := range 5 {
		b = loadBoth(t, full(), choice(api.Rollback, n, 0), choice(api.Replay, n, 0), choice(api.Replay, n, 0))
		b.do("P8.2", list())
		b.do("P8.2", get(lastKey(2)))
		if r := b.do("P8.2", read()); r.bytes != "abcd" {
			t.Errorf("P8.2: a loaded device has made a change: %q", r.bytes)
		}
	}
	b = loadBoth(t, full(), choice(api.Replay, 3, 0), choice(api.Replay, 3, 0))
	if r := b.do("P8.2", get(key(7))); r.e != api.ErrAbsent {
		t.Errorf("P8.2: a key without a blob has a version: %v", r)
	}
	if r := b.do("P8.2", get(lastKey(1))); r.e != api.OK || r.bytes != "" {
		t.Errorf("P8.2: a key with an empty blob has none: %v", r)
	}
}
