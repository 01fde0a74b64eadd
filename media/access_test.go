package media_test

import (
	"fmt"
	"math"
	"math/rand"
	"slices"
	"strings"
	"testing"

	"cairn/api"
	"cairn/media"
)

// allOps are the ten accesses, each with what could make it differ; log tells how long the log is.
func allOps(log int) []op {
	return []op{
		get(key(1)), get(key(2)), get(key(3)), get(lastKey(1)),
		put(key(1), ""), put(key(1), "ab"), put(key(1), "new"), put(key(2), "c"), put(key(3), "xyz"), put(lastKey(1), strings.Repeat("k", 1024)),
		drop(key(1)), drop(key(2)), drop(key(3)),
		list(), read(),
		add(""), add("x"), add("xyz"), add("0123456789"), add(strings.Repeat("l", 64)),
		trim(0), trim(1), trim(log / 2), trim(log), trim(log + 1), trim(-1), trim(math.MaxInt), trim(math.MinInt),
		cut(0), cut(1), cut(log / 2), cut(log), cut(log + 1), cut(-1), cut(math.MaxInt), cut(math.MinInt),
		reg(), set(1, 5), set(2, 6), set(3, 7), set(1<<40, 8),
	}
}

// tooMuch are calls that are no access.
func tooMuch() []op {
	return []op{put(key(1), strings.Repeat("x", 1025)), put(key(9), strings.Repeat("x", 100000)), set(0, 0), set(0, 1), set(-1, 1), set(math.MinInt64, 1), set(1<<40+1, 1), set(math.MaxInt64, 1)}
}

// situation is a device that has been through something.
type situation struct {
	name        string
	slots, room int
	ops         []op
}

// situations are devices with and without blobs, with an empty log and a full one, without changes and with several.
func situations() []situation {
	return []situation{
		{"empty", 2, 10, nil},
		{"empty, no room", 1, 0, nil},
		{"no blobs, a log", 2, 10, []op{add("hello")}},
		{"no blobs, a full log", 2, 10, []op{add("hello"), add("world")}},
		{"a blob, no log", 2, 10, []op{put(key(1), "ab")}},
		{"an empty blob", 2, 10, []op{put(key(1), "")}},
		{"a blob several times", 2, 10, []op{put(key(1), "ab"), put(key(1), "cde"), put(key(1), "ab"), put(key(1), "ab")}},
		{"a blob that is gone", 2, 10, []op{put(key(1), "ab"), put(key(1), "c"), drop(key(1))}},
		{"full, and a log", 2, 10, []op{put(key(1), "ab"), put(key(2), "c"), add("hello"), set(2, 2)}},
		{"full all over", 2, 10, []op{add("0123"), put(key(1), "ab"), add("456789"), put(key(2), "c"), put(key(1), "de"), set(1, 2)}},
		{"several changes", 3, 20, []op{add("ab"), put(key(1), "x"), add("cd"), put(key(2), "y"), trim(1), drop(key(1)), cut(2), put(key(1), "z"), add("efg")}},
		{"refusals", 1, 3, []op{put(key(1), "ab"), put(key(2), "c"), add("abc"), add("d"), trim(9), cut(9), drop(key(3)), set(2, 1), set(1, 1)}},
	}
}

// somePairs are numbers N and M for a choice.
func somePairs(kind int) [][2]int {
	switch kind {
	case api.Honest, api.Drop, api.Crash, api.After:
		return [][2]int{{0, 0}, {5, 7}}
	case api.Alter:
		var out [][2]int
		for _, n := range []int{0, 1, 2, 3, 31, 32, 33, 63, 64, 95, 1 << 40, math.MaxInt} {
			for _, m := range []int{0, 1, 254, 255, math.MaxInt} {
				out = append(out, [2]int{n, m})
			}
		}
		return out
	}
	var out [][2]int
	for _, n := range []int{0, 1, 2, 3, 4, 5, 6, 7, 8, 9, 10, 11, 20, 1 << 40, math.MaxInt} {
		out = append(out, [2]int{n, n % 3})
	}
	return out
}

// in brings a device and its model into a situation.
func (s situation) in(t *testing.T) *both {
	b := newBoth(t, s.slots, s.room)
	for _, o := range s.ops {
		b.do("P8.4", o)
	}
	return b
}

func TestEveryAccessByEveryChoice(t *testing.T) {
	for _, s := range situations() {
		for kind := range api.Choices {
			for _, nm := range somePairs(kind) {
				for _, o := range allOps(len(s.in(t).m.now.log)) {
					b := s.in(t)
					b.choose(choice(kind, nm[0], nm[1]))
					b.do("P8.5", o)
					last := b.d.Accesses()[len(s.ops)]
					if last.Kind != o.kind || last.Choice != kind || len(b.d.Accesses()) != len(s.ops)+1 {
						t.Fatalf("P8.3: %s: %v by a choice of kind %d is noted as %v", s.name, o, kind, last)
					}
					b.probe("P8.5")
				}
			}
		}
	}
}

func TestTwoAccessesByTwoChoices(t *testing.T) {
	if testing.Short() {
		t.Skip("takes some seconds")
	}
	situation := situations()[10]
	for first := range api.Choices {
		for second := range api.Choices {
			for _, n := range []int{0, 1, 4, 9, 11} {
				for _, o := range allOps(4) {
					b := situation.in(t)
					b.choose(choice(first, n, 1), choice(second, 11-n, 2))
					b.do("P8.5", put(key(1), "pq"))
					b.up()
					b.do("P8.5", o)
					b.up()
					b.do("P8.5", read())
					b.probe("P8.5")
				}
			}
		}
	}
}

func TestNilDevice(t *testing.T) {
	var d *media.Device
	for _, o := range append(allOps(3), tooMuch()...) {
		if r := ask(d, o); r != (reply{e: api.ErrHandle}) {
			t.Errorf("P8.3: a nil device: %v answers %v", o, r)
		}
	}
	d.Up()
	if d.Down() || !sameMedia(d.Media(), api.Media{}) || len(d.Accesses()) != 0 {
		t.Errorf("P8.6: a nil device: Down %v, Media %v, Accesses %v", d.Down(), d.Media(), d.Accesses())
	}
	if e, f := d.Choose(), d.Choose(api.Choice{Kind: -1}); e != api.ErrHandle || f != api.ErrHandle {
		t.Errorf("P8.6: a nil device: Choose answers %d, %d", e, f)
	}
}

func TestDownDevice(t *testing.T) {
	for _, how := range []int{api.Torn, api.Crash, api.After} {
		for _, s := range situations() {
			b := s.in(t)
			b.choose(choice(how, 0, 0), choice(api.Drop, 0, 0))
			b.do("P8.5", list())
			if !b.d.Down() {
				t.Fatalf("P8.5: a choice of kind %d leaves it up", how)
			}
			for _, o := range append(allOps(3), tooMuch()...) {
				if r := b.do("P8.3", o); r != (reply{e: api.ErrDown}) {
					t.Errorf("P8.3: %s: a device that is down answers %v at %v", s.name, r, o)
				}
			}
			if n := len(b.d.Accesses()); n != len(s.ops)+1 {
				t.Errorf("P8.3: %s: %d accesses, not %d: a device that is down notes them", s.name, n, len(s.ops)+1)
			}
			b.up()
			if r := b.do("P8.3", read()); r != (reply{}) || b.d.Down() {
				t.Errorf("P8.3: %s: the choice behind was taken while it was down: %v", s.name, r)
			}
			b.probe("P8.3")
		}
	}
}

func TestWhatIsNoAccess(t *testing.T) {
	for kind := range api.Choices {
		for _, o := range tooMuch() {
			b := newBoth(t, 2, 10)
			b.do("P8.4", put(key(1), "ab"))
			b.choose(choice(kind, 0, 0))
			if r := b.do("P8.3", o); r != (reply{e: api.ErrInput}) {
				t.Errorf("P8.3: %v answers %v", o, r)
			}
			if len(b.d.Accesses()) != 1 || b.d.Down() {
				t.Errorf("P8.3: %v is an access", o)
			}
			b.do("P8.3", get(key(1)))
			if a := b.d.Accesses(); len(a) != 2 || a[1].Choice != kind {
				t.Errorf("P8.3: %v has taken the choice: %v", o, a)
			}
			b.probe("P8.3")
		}
	}
}

func TestGreatestInputs(t *testing.T) {
	b := newBoth(t, 2, 10)
	longest := strings.Repeat("x", 1024)
	if r := b.do("P8.3", put(key(1), longest)); r.e != api.OK {
		t.Errorf("P8.3: 1024 bytes: %d", r.e)
	}
	if r := b.do("P8.4", get(key(1))); r.bytes != longest {
		t.Errorf("P8.4: 1024 bytes are told as %d", len(r.bytes))
	}
	if r := b.do("P8.3", set(1<<40, 1)); r.e != api.OK {
		t.Errorf("P8.3: the greatest count: %d", r.e)
	}
	if r := b.do("P8.3", set(1<<40, 2)); r.e != api.ErrOld {
		t.Errorf("P8.4: the greatest count again: %d", r.e)
	}
}

func TestWhatIsNoted(t *testing.T) {
	b := newBoth(t, 1, 3)
	for _, o := range []op{put(key(1), "a"), put(key(2), "b"), get(key(1)), get(key(2)), list(), add("abc"), add("d"), read(), trim(1), trim(9), cut(1), cut(9), drop(key(1)), drop(key(1)), set(1, 1), set(1, 2), reg()} {
		b.do("P8.3", o)
	}
	want := []api.Access{{Kind: 2, Done: true}, {Kind: 2}, {Kind: 1, Done: true}, {Kind: 1}, {Kind: 4, Done: true}, {Kind: 6, Done: true}, {Kind: 6}, {Kind: 5, Done: true},
		{Kind: 7, Done: true}, {Kind: 7}, {Kind: 8, Done: true}, {Kind: 8}, {Kind: 3, Done: true}, {Kind: 3}, {Kind: 10, Done: true}, {Kind: 10}, {Kind: 9, Done: true}}
	if got := b.d.Accesses(); !slices.Equal(got, want) {
		t.Errorf("P8.3: %v, not %v", got, want)
	}
	for kind := range api.Choices {
		d, _ := media.New(1, 3, choice(kind, 0, 0), choice(kind, 0, 0))
		d.Reg()
		d.Up()
		d.Append([]byte("a"))
		done := kind != api.Crash && kind != api.After
		want := []api.Access{{Kind: 9, Choice: kind, Done: done}, {Kind: 6, Choice: kind, Done: done && kind != api.Torn}}
		if got := d.Accesses(); !slices.Equal(got, want) {
			t.Errorf("P8.3: %v, not %v", got, want)
		}
	}
}

func TestListIsSorted(t *testing.T) {
	keys := someKeys()
	slices.SortFunc(keys, func(a, b api.Hash) int { return strings.Compare(string(a[:]), string(b[:])) })
	r := rand.New(rand.NewSource(1))
	for range 50 {
		d, _ := media.New(20, 0)
		for _, i := range r.Perm(len(keys)) {
			d.Put(keys[i], []byte{1})
		}
		got, e := d.List()
		if e != api.OK || !slices.Equal(got, keys) {
			t.Fatalf("P8.4: %x", got)
		}
		for i, b := range d.Media().Blobs {
			if b.Key != keys[i] {
				t.Fatalf("P8.6: blob number %d is that of %x", i, b.Key)
			}
		}
	}
}

// someOp tells one access or another; wrong inputs too, now and then.
func someOp(r *rand.Rand, log int) op {
	keys := someKeys()[1:5]
	k := keys[r.Intn(len(keys))]
	text := func(n int) string { return "abcdefghijklmnopqrstuvwxyz"[r.Intn(3):][:r.Intn(n)] }
	switch r.Intn(14) {
	case 0, 1:
		return get(k)
	case 2, 3, 4:
		return put(k, text(4))
	case 5:
		return drop(k)
	case 6:
		return list()
	case 7:
		return read()
	case 8, 9:
		return add(text(8))
	case 10:
		return trim(r.Intn(log+2) - r.Intn(2))
	case 11:
		return cut(r.Intn(log+2) - r.Intn(2))
	case 12:
		return set(int64(r.Intn(60)), byte(r.Intn(9)))
	}
	if r.Intn(9) == 0 {
		return tooMuch()[r.Intn(len(tooMuch()))]
	}
	return reg()
}

// someChoice tells one choice or another; those that end all are rare.
func someChoice(r *rand.Rand) api.Choice {
	kinds := []int{0, 0, 1, 2, 3, 3, 3, 4, 4, 4, 5, 6, 7}
	n := r.Intn(12)
	if r.Intn(4) == 0 {
		n = r.Intn(math.MaxInt)
	}
	return choice(kinds[r.Intn(len(kinds))], n, r.Intn(600))
}

// wander does some accesses by some choices, one behind the other.
func (b *both) wander(r *rand.Rand, steps, honest int) {
	for range steps {
		switch {
		case b.m.down && r.Intn(3) > 0:
			b.up()
		case r.Intn(10) >= honest && len(b.m.choices) == 0:
			var l []api.Choice
			for range 1 + r.Intn(4) {
				l = append(l, someChoice(r))
			}
			b.choose(l...)
		}
		b.do("P8.5", someOp(r, len(b.m.now.log)))
	}
}

func TestLongWalks(t *testing.T) {
	walks := 2000
	if testing.Short() {
		walks = 400
	}
	for i := range walks {
		r := rand.New(rand.NewSource(int64(i)))
		b := newBoth(t, 1+r.Intn(4), r.Intn(30))
		b.wander(r, 10+r.Intn(120), i%11)
		b.probe(fmt.Sprintf("P8.5 (walk %d)", i))
	}
}
