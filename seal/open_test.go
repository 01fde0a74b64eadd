package seal_test

import (
	"strings"
	"testing"

	"cairn/api"
	"cairn/digest"
	"cairn/journal"
	"cairn/media"
	"cairn/seal"
)

// wantsOpen opens, and holds the head's numbers, the error and the accesses against what the test names.
func (r *rig) wantsOpen(what string, count, seq int64, accesses string) api.Head {
	r.t.Helper()
	var h api.Head
	var e api.Errno
	made := r.made(func() { _, h, e = r.open() })
	if h.Count != count || h.Seq != seq || e != api.OK || made != accesses {
		r.fails("20.2: %s: Open = %s, %d by %q, not {%d %d ..} by %q", what, brief(h), e, made, count, seq, accesses)
	}
	if reg := r.d.Media().Reg; reg != (api.Register{Count: h.Count, Tag: h.Tag}) {
		r.fails("20.2: %s: the register is at %d, not at the head", what, reg.Count)
	}
	return h
}

// refusesOpen opens, and holds the error and the accesses against what the test names.
func (r *rig) refusesOpen(what string, wrong api.Errno, accesses string) {
	r.t.Helper()
	var who int
	var h api.Head
	var e api.Errno
	was := r.d.Media().Reg
	made := r.made(func() { who, h, e = r.open() })
	if who != -1 || h != (api.Head{}) || e != wrong || made != accesses {
		r.fails("20.2: %s: Open = %s, %d by %q, not error %d by %q", what, brief(h), e, made, wrong, accesses)
	}
	if e != api.ErrDown && r.d.Media().Reg != was {
		r.fails("20.2: %s: the register has moved", what)
	}
}

// wantsLog holds the device's log against what the test names.
func (r *rig) wantsLog(what, log string) {
	r.t.Helper()
	if got := string(r.d.Media().Log); got != log {
		r.fails("20.2: %s: the log has %d bytes, other ones than the %d that it should", what, len(got), len(log))
	}
}

func TestNilHandles(t *testing.T) {
	d, _ := media.New(1, 1000)
	book, _ := digest.New(256, 256, make([]byte, 32))
	for _, x := range []struct {
		d    *media.Device
		book *digest.Book
	}{{nil, book}, {d, nil}, {nil, nil}} {
		if l, h, e := seal.Open(x.d, x.book); l != nil || h != (api.Head{}) || e != api.ErrHandle {
			t.Errorf("20.2: Open(%v, %v) = %v, %s, %d", x.d != nil, x.book != nil, l, brief(h), e)
		}
	}
	if n := len(d.Accesses()); n != 0 {
		t.Errorf("R6: %d accesses", n)
	}
	if hashed, coded := book.Len(); hashed+coded != 0 {
		t.Errorf("R7: %d and %d", hashed, coded)
	}
	d.Choose(choice(api.Crash, 0))
	d.Reg()
	if _, _, e := seal.Open(d, nil); e != api.ErrHandle {
		t.Errorf("20.2: Open of a device that is down, without a book: %d", e)
	}
}

func TestNilLog(t *testing.T) {
	var l *seal.Log
	for _, changes := range [][]api.Change{nil, {put("a", "1")}, {put("a", "")}} {
		if h, e := l.Commit(root(1), changes); h != (api.Head{}) || e != api.ErrHandle {
			t.Errorf("20.3: Commit of a nil Log = %s, %d", brief(h), e)
		}
	}
	if e := l.Check(); e != api.ErrHandle {
		t.Errorf("20.4: Check of a nil Log = %d", e)
	}
	if h := l.Head(); h != (api.Head{}) {
		t.Errorf("20.5: Head of a nil Log = %s", brief(h))
	}
	if records, e := l.History(); len(records) != 0 || e != api.ErrHandle {
		t.Errorf("20.6: History of a nil Log = %d records, %d", len(records), e)
	}
}

func TestOpenOfAnEmptyDevice(t *testing.T) {
	for _, bits := range []int{8, 13, 256} {
		r := lay(t, 1000, bits)
		h := r.wantsOpen("an empty device", 1, 0, "reg read append setreg")
		if h.Root != r.book.Hash([]byte{128}) || h.Root != hashOf(r.bits, "\x80") {
			t.Errorf("20.2: the beginning's root is %x", h.Root)
		}
		if hashed, coded := r.book.Len(); hashed != 1 || coded != 1 {
			t.Errorf("R7: %d strings were hashed, %d coded", hashed, coded)
		}
		w, head := r.write(openedBehind(r.beginning()))
		if h != head || len(w) != openedFrame {
			t.Errorf("20.2: the head is %s, not %s", brief(h), brief(head))
		}
		r.wantsLog("an empty device", w)
	}
}

// The root of the empty trie has been hashed by the book at the opening itself, not first where somebody else asks: R7.
func TestOpenHashesTheBeginning(t *testing.T) {
	r := lay(t, 1000, 256)
	r.opens()
	if hashed, _ := r.book.Len(); hashed != 1 {
		t.Errorf("R7: %d strings were hashed", hashed)
	}
}

// The register stands for the log's last record: nothing is cut off.
func TestOpenAtTheLastRecord(t *testing.T) {
	for _, kinds := range []string{"o", "oc", "oo", "occ", "oco", "occco", "ooooo"} {
		r := newRig(t, 256)
		c := r.chain(r.beginning(), kinds)
		n := len(kinds)
		r.load(5000, c.all(), c.reg(n))
		h := r.wantsOpen(kinds, c.heads[n].Count+1, c.heads[n].Seq, "reg read append setreg")
		w, head := r.write(openedBehind(c.heads[n]))
		if h != head {
			t.Errorf("20.2: %s: %s, not %s", kinds, brief(h), brief(head))
		}
		r.wantsLog(kinds, c.all()+w)
	}
}

// The log is behind the register by one record and by several: of these the first one is taken, if it is a commit, and no other.
func TestOpenTakesTheCommitBehindTheRegister(t *testing.T) {
	for _, x := range []struct {
		kinds    string
		at, kept int
	}{
		{"oc", 1, 2}, {"oo", 1, 1}, {"occ", 1, 2}, {"occ", 2, 3}, {"oco", 1, 2}, {"ooc", 1, 1}, {"oooo", 1, 1}, {"occcc", 1, 2},
		{"occcc", 3, 4}, {"ocococ", 3, 4}, {"ocococ", 2, 2}, {"o", 0, 0}, {"oc", 0, 0}, {"c", 0, 1}, {"cc", 0, 1}, {"co", 0, 1}, {"cc", 1, 2},
	} {
		r := newRig(t, 256)
		c := r.chain(r.beginning(), x.kinds)
		reg := api.Register{}
		if x.at > 0 {
			reg = c.reg(x.at)
		}
		r.load(5000, c.all(), reg)
		accesses := "reg read cut append setreg"
		if x.kept == len(x.kinds) {
			accesses = "reg read append setreg"
		}
		h := r.wantsOpen(x.kinds, c.heads[x.kept].Count+1, c.heads[x.kept].Seq, accesses)
		if h.Root != c.heads[x.kept].Root {
			t.Errorf("20.2: %s: the root is %x", x.kinds, h.Root[:3])
		}
		w, _ := r.write(openedBehind(c.heads[x.kept]))
		r.wantsLog(x.kinds, c.log(x.kept)+w)
		if next := r.wantsOpen("once more", h.Count+1, h.Seq, "reg read append setreg"); next.Root != h.Root {
			t.Errorf("20.7: %s: another root is shown", x.kinds)
		}
	}
}

// strays tells records that do not follow a head as a commit, each by one thing alone.
func strays(h api.Head) map[string]api.Record {
	out := map[string]api.Record{}
	for name, turn := range map[string]func(x *api.Record){
		"its count is the head's": func(x *api.Record) { x.Count-- },
		"its count is two more":   func(x *api.Record) { x.Count++ },
		"its number is two more":  func(x *api.Record) { x.Seq++ },
		"its number is the head's": func(x *api.Record) {
			x.Seq--
			x.Kind, x.Changes, x.Root = api.Opened, nil, root(77)
		},
		"another tag ahead of it": func(x *api.Record) { x.Prev[31] ^= 1 },
		"an opening": func(x *api.Record) {
			*x = openedBehind(h)
		},
	} {
		x := committedBehind(h, root(55), put("a", "1"))
		turn(&x)
		out[name] = x
	}
	return out
}

// What stands behind the register's record and is no commit that follows it is cut off.
func TestOpenCutsStraysOff(t *testing.T) {
	for _, kinds := range []string{"oc", "oco", "occ"} {
		names := newRig(t, 256)
		for name := range strays(names.chain(names.beginning(), kinds).heads[len(kinds)]) {
			r := newRig(t, 256)
			c := r.chain(r.beginning(), kinds)
			n := len(kinds)
			stray, _ := r.write(strays(c.heads[n])[name])
			after, _ := r.write(committedBehind(c.heads[n], root(9)))
			for _, tail := range []string{stray, stray + after, stray + stray, stray + "\x00"} {
				r.load(5000, c.all()+tail, c.reg(n))
				r.wantsOpen(name, c.heads[n].Count+1, c.heads[n].Seq, "reg read cut append setreg")
				w, _ := r.write(openedBehind(c.heads[n]))
				r.wantsLog(name, c.all()+w)
			}
		}
	}
}

// wrongTails tells bytes behind a chain that are no record: at them a scan ends.
func (r *rig) wrongTails(h api.Head) []string {
	next, _ := r.write(committedBehind(h, root(55), put("a", "1")))
	turned := []byte(next)
	turned[len(turned)-1] ^= 1
	body := []byte(next)
	body[30] ^= 4
	return []string{
		"\x00", "\xca", "rubbish", strings.Repeat("\x00", 300), string(turned), string(body), next[:5], next[:len(next)-1],
		"\x00" + next, string(turned) + next, string(body) + next, "\xca\x00\x00\x00\xff\xff\xff", "\xca\x00\x00\x00\xff\xff\xff" + next,
	}
}

func TestOpenCutsRubbishOff(t *testing.T) {
	for _, kinds := range []string{"o", "oc", "oco"} {
		r := newRig(t, 256)
		c := r.chain(r.beginning(), kinds)
		n := len(kinds)
		for _, tail := range r.wrongTails(c.heads[n]) {
			r.load(5000, c.all()+tail, c.reg(n))
			r.wantsOpen("rubbish at the end", c.heads[n].Count+1, c.heads[n].Seq, "reg read cut append setreg")
			w, _ := r.write(openedBehind(c.heads[n]))
			r.wantsLog("rubbish at the end", c.all()+w)
		}
		next, head := r.write(committedBehind(c.heads[n], root(56)))
		for _, tail := range r.wrongTails(head) {
			r.load(5000, c.all()+next+tail, c.reg(n))
			r.wantsOpen("rubbish behind the commit", head.Count+1, head.Seq, "reg read cut append setreg")
			w, _ := r.write(openedBehind(head))
			r.wantsLog("rubbish behind the commit", c.all()+next+w)
		}
	}
}

// No record of the log stands for the register: ErrStale, whatever else stands there, and nothing is done.
func TestOpenOfAStaleLog(t *testing.T) {
	r := newRig(t, 256)
	c := r.chain(r.beginning(), "ococ")
	tag := c.heads[3].Tag
	tag[31] ^= 1
	for what, x := range map[string]struct {
		log string
		reg api.Register
	}{
		"no log":                            {"", c.reg(3)},
		"a log that was rolled back":        {c.log(2), c.reg(3)},
		"a log that is cut within":          {c.log(3)[:len(c.log(3))-1], c.reg(3)},
		"a log without its end":             {c.frames[0] + c.frames[1] + c.frames[3], c.reg(3)},
		"rubbish ahead of the record":       {c.log(2) + "\x00" + c.frames[2], c.reg(3)},
		"rubbish alone":                     {"rubbish", c.reg(1)},
		"another tag":                       {c.all(), api.Register{Count: 3, Tag: tag}},
		"another count":                     {c.all(), api.Register{Count: 4, Tag: c.heads[3].Tag}},
		"the count of a later one":          {c.all(), api.Register{Count: 4, Tag: c.heads[1].Tag}},
		"the tag of zeros":                  {c.all(), api.Register{Count: 3}},
		"a count that is not there":         {c.all(), api.Register{Count: 5, Tag: c.heads[4].Tag}},
		"the record that follows, alone":    {c.frames[3], c.reg(3)},
		"the greatest count":                {c.all(), api.Register{Count: greatestCount, Tag: c.heads[4].Tag}},
		"the first record behind an opened": {c.frames[1] + c.frames[2], c.reg(1)},
	} {
		r.load(5000, x.log, x.reg)
		r.refusesOpen(what, api.ErrStale, "reg read")
		r.wantsLog(what, x.log)
	}
}

// Only all the bytes of a code count, the last ones too.
func TestOpenLooksAtTheWholeTag(t *testing.T) {
	r := newRig(t, 256)
	c := r.chain(r.beginning(), "oc")
	for i := range 256 {
		reg := c.reg(2)
		reg.Tag[i/8] ^= 128 >> (i % 8)
		r.load(5000, c.all(), reg)
		r.refusesOpen("a turned bit in the register", api.ErrStale, "reg read")
	}
}

// Two records stand for the register: the last counts.
func TestOpenTakesTheLastOfTwo(t *testing.T) {
	r := newRig(t, 256)
	c := r.chain(r.beginning(), "oc")
	next, head := r.write(committedBehind(c.heads[2], root(8)))
	w, _ := r.write(openedBehind(c.heads[2]))
	beyond, _ := r.write(openedBehind(head))
	a, b := c.frames[0], c.frames[1]
	for _, x := range []struct{ log, kept string }{
		{a + b + b, a + b + b}, {a + b + a + b, a + b + a + b}, {a + b + next + b, a + b + next + b}, {b + a + b + a, b + a + b},
		{a + b + b + b + a + a, a + b + b + b}, {b + next + b + w, b + next + b},
	} {
		r.load(5000, x.log, c.reg(2))
		accesses := "reg read append setreg"
		if x.log != x.kept {
			accesses = "reg read cut append setreg"
		}
		r.wantsOpen("one record twice", 3, 1, accesses)
		r.wantsLog("one record twice", x.kept+w)
	}
	r.load(5000, a+b+next+b+next, c.reg(2))
	r.wantsOpen("one record twice, and a commit behind it", 4, 2, "reg read append setreg")
	r.wantsLog("one record twice, and a commit behind it", a+b+next+b+next+beyond)
}

// twinsBehind tells two different commits with one count and one code: with few bits they are found soon.
func (r *rig) twinsBehind(h api.Head) [2]api.Record {
	seen := map[api.Hash]api.Record{}
	for i := 0; ; i++ {
		x := committedBehind(h, root(i), put("twin", "v"))
		_, head := r.write(x)
		if y, is := seen[head.Tag]; is {
			return [2]api.Record{y, x}
		}
		seen[head.Tag] = x
	}
}

// By few bits two different records may stand for the register: the last counts.
func TestOpenTakesTheLastOfTwins(t *testing.T) {
	for _, bits := range []int{8, 10} {
		r := newRig(t, bits)
		c := r.chain(r.beginning(), "o")
		twins := r.twinsBehind(c.heads[1])
		for i := range 2 {
			one, head := r.write(twins[i])
			two, _ := r.write(twins[1-i])
			reg := api.Register{Count: head.Count, Tag: head.Tag}
			r.load(5000, c.all()+two+one, reg)
			if h := r.wantsOpen("twins", 3, 1, "reg read append setreg"); h.Root != head.Root {
				t.Errorf("20.2: of two twins the first one counts")
			}
			r.load(5000, c.all()+one+two+one[:9], reg)
			if h := r.wantsOpen("twins", 3, 1, "reg read cut append setreg"); h.Root == head.Root {
				t.Errorf("20.2: of two twins the first one counts")
			}
		}
	}
}

// The counter 0: nothing of a log that is not empty is kept, but for a first commit that follows the beginning.
func TestOpenWithTheCounterZero(t *testing.T) {
	r := newRig(t, 256)
	w, _ := r.write(openedBehind(r.beginning()))
	late := r.chain(api.Head{Count: 7, Seq: 3, Tag: api.Hash{5}, Root: root(3)}, "cco")
	other := api.Head{Tag: api.Hash{1}}
	stray, _ := r.write(committedBehind(other, root(4)))
	zero, _ := r.write(committedBehind(api.Head{}, root(4)))
	none := api.Register{}
	for what, log := range map[string]string{
		"an opening that crashed":       w,
		"two of them":                   w + w,
		"rubbish":                       "rubbish",
		"a torn record":                 w[:len(w)-1],
		"a log of another time":         late.all(),
		"a commit behind another tag":   stray,
		"a commit behind the opening":   w + zero,
		"rubbish ahead of a commit":     "\x00" + zero,
		"a commit that is not the next": stray + zero,
	} {
		r.load(5000, log, none)
		r.wantsOpen(what, 1, 0, "reg read cut append setreg")
		r.wantsLog(what, w)
	}
	for what, tail := range map[string]string{"a first commit": "", "a first commit and more": w, "a first commit twice": zero, "a first commit, torn": zero[:20]} {
		r.load(5000, zero+tail, none)
		accesses := "reg read cut append setreg"
		if tail == "" {
			accesses = "reg read append setreg"
		}
		if h := r.wantsOpen(what, 2, 1, accesses); h.Root != root(4) {
			t.Errorf("20.2: %s: the root is %x", what, h.Root[:3])
		}
	}
}

// The head's Count at its end and one less; the commit that is taken counts too.
func TestOpenAtTheGreatestCount(t *testing.T) {
	r := newRig(t, 256)
	before := api.Head{Count: greatestCount - 3, Seq: 5, Tag: api.Hash{9}, Root: root(1)}
	c := r.chain(before, "occ") // the last one has the greatest count
	for n := 1; n <= 3; n++ {
		for _, tail := range []string{"", "\x00", c.frames[0][:9]} {
			r.load(5000, c.log(n)+tail, c.reg(n))
			if n == 3 {
				r.refusesOpen("at the greatest count", api.ErrCount, "reg read")
				r.wantsLog("at the greatest count", c.log(n)+tail)
				continue
			}
			accesses := "reg read append setreg"
			if tail != "" {
				accesses = "reg read cut append setreg"
			}
			r.wantsOpen("below the greatest count", c.heads[n].Count+1, c.heads[n].Seq, accesses)
		}
	}
	r.load(5000, c.all(), c.reg(2))
	r.refusesOpen("the commit that is taken has the greatest count", api.ErrCount, "reg read")
	r.wantsLog("the commit that is taken has the greatest count", c.all())
	r.load(5000, c.all(), c.reg(1))
	r.wantsOpen("the commit that is taken has one less", greatestCount, 6, "reg read cut append setreg")
	r.load(10, "", api.Register{Count: greatestCount, Tag: c.heads[3].Tag})
	r.refusesOpen("that the record is not there is told ahead of the count", api.ErrStale, "reg read")
	_, coded := r.book.Len()
	r.load(5000, c.all(), c.reg(3))
	r.refusesOpen("nothing is coded", api.ErrCount, "reg read")
	if _, n := r.book.Len(); n != coded {
		t.Errorf("R7: a record beyond the greatest count was coded")
	}
}

// Room: the log with the new record, in all rooms around what is needed.
func TestOpenInEachRoom(t *testing.T) {
	for _, kinds := range []string{"", "o", "oc", "oco", "occc"} {
		for at := 0; at <= len(kinds); at++ {
			r := newRig(t, 256)
			c := r.chain(r.beginning(), kinds)
			reg := api.Register{}
			if at > 0 {
				reg = c.reg(at)
			}
			n := len(c.all())
			for room := n; room <= n+2*openedFrame; room++ {
				r.load(room, c.all(), reg)
				r.open()
				r.open()
			}
		}
	}
}

func TestOpenWithoutRoom(t *testing.T) {
	r := newRig(t, 256)
	c := r.chain(r.beginning(), "occ")
	a, b := len(c.frames[0]), len(c.frames[1])
	r.load(a+openedFrame, c.log(1), c.reg(1))
	r.wantsOpen("just room", 2, 0, "reg read append setreg")
	r.load(a+openedFrame-1, c.log(1), c.reg(1))
	r.refusesOpen("the register's record begins at 0", api.ErrFull, "reg read append-")
	r.wantsLog("the register's record begins at 0", c.log(1))
	r.load(a+b+openedFrame-1, c.log(2), c.reg(1))
	r.refusesOpen("the register's record begins at 0, and a commit is taken", api.ErrFull, "reg read append-")
	r.load(openedFrame, "", api.Register{})
	r.wantsOpen("the beginning, just room", 1, 0, "reg read append setreg")
	r.load(openedFrame-1, "", api.Register{})
	r.refusesOpen("the beginning", api.ErrFull, "reg read append-")
	r.load(openedFrame-1, "rubbish", api.Register{})
	r.refusesOpen("the beginning, with a log", api.ErrFull, "reg read cut append-")
	r.wantsLog("the beginning, with a log", "")
}

func TestOpenTrims(t *testing.T) {
	r := newRig(t, 256)
	c := r.chain(r.beginning(), "occ")
	w2, _ := r.write(openedBehind(c.heads[2]))
	w3, _ := r.write(openedBehind(c.heads[3]))
	r.load(len(c.log(2))+openedFrame-1, c.log(2), c.reg(2))
	r.wantsOpen("the Trim makes room", 3, 1, "reg read append- trim append setreg")
	r.wantsLog("the Trim makes room", c.frames[1]+w2)
	r.load(len(c.log(2)), c.log(2), c.reg(2))
	r.wantsOpen("the Trim makes just room", 3, 1, "reg read append- trim append setreg")
	r.load(len(c.all()), c.all(), c.reg(2))
	r.wantsOpen("a commit is taken", 4, 2, "reg read append- trim append setreg")
	r.wantsLog("the log begins with the register's record, not with the one that is taken", c.frames[1]+c.frames[2]+w3)
	r.load(len(c.log(2))+8, c.log(2)+"rubbish", c.reg(2))
	r.wantsOpen("rubbish at the end", 3, 1, "reg read cut append- trim append setreg")
	r.wantsLog("rubbish at the end", c.frames[1]+w2)
}

// The record ahead of the register's is shorter than the opening's own: what the Trim frees is too little.
func TestOpenTrimsInVain(t *testing.T) {
	for _, kinds := range []string{"o", "c", "oc", "cc"} {
		r := newRig(t, 256)
		lead, _ := r.write(openedBehind(r.beginning()))
		c := r.chain(api.Head{Count: 300, Seq: 40, Tag: api.Hash{1}}, kinds)
		w, _ := r.write(openedBehind(c.heads[len(kinds)]))
		log := lead + c.all()
		short := len(w) - len(lead)
		if short < 1 {
			t.Fatalf("the test's own records: %d and %d", len(w), len(lead))
		}
		r.load(len(log)+short-1, log, c.reg(1))
		r.refusesOpen("too little room", api.ErrFull, "reg read append- trim append-")
		r.wantsLog("too little room", c.all())
		r.refusesOpen("too little room once more, and nothing to trim", api.ErrFull, "reg read append-")
		r.load(len(log)+short, log, c.reg(1))
		r.wantsOpen("just room", c.heads[len(kinds)].Count+1, c.heads[len(kinds)].Seq, "reg read append- trim append setreg")
		r.wantsLog("just room", c.all()+w)
	}
}

// A log that this book has never coded: it is told by the code alone, and the book is sound no more.
func TestOpenOfAnotherBooksLog(t *testing.T) {
	for _, bits := range []int{8, 256} {
		other := newRig(t, bits)
		c := other.chain(other.beginning(), "occ")
		r := newRig(t, bits)
		r.load(5000, c.all(), c.reg(2))
		r.wantsOpen("another book's log", 4, 2, "reg read append setreg")
		if l := r.book.Forgeries(); len(l) != 3 || r.book.Sound() {
			t.Errorf("R7: %d forgeries", len(l))
		}
		secret := make([]byte, 32)
		secret[0] = 1
		foreign, _ := digest.New(256, 256, secret)
		if l, _, e := seal.Open(r.d, foreign); l != nil || e != api.ErrStale {
			t.Errorf("20.2: with another secret Open = %d", e)
		}
	}
}

// The device is down: no access is made.
func TestOpenOfADeviceThatIsDown(t *testing.T) {
	r := lay(t, 1000, 256)
	r.opens()
	r.choose(choice(api.Crash, 0))
	r.check(0)
	r.refusesOpen("a device that is down", api.ErrDown, "")
	r.up()
	r.wantsOpen("up again", 2, 0, "reg read append setreg")
}

// Records that any session could have left, with the register at each of them and any tail behind: the model tells what is to be.
func TestOpenOfManyLogs(t *testing.T) {
	seen := map[api.Errno]int{}
	var kinds []string
	for n := range 5 {
		for i := range 1 << n {
			var s []byte
			for k := range n {
				s = append(s, "oc"[i>>k&1])
			}
			kinds = append(kinds, string(s))
		}
	}
	for _, bits := range []int{8, 256} {
		for _, s := range kinds {
			r := newRig(t, bits)
			c := r.chain(r.beginning(), s)
			tails := append(r.wrongTails(c.heads[len(s)]), "")
			if testing.Short() {
				tails = tails[len(tails)-3:]
			}
			for at := 0; at <= len(s); at++ {
				reg := c.reg(at)
				if at == 0 {
					reg = api.Register{}
				}
				for first := range len(s) + 1 {
					for _, tail := range tails {
						log := strings.Join(c.frames[first:], "") + tail
						for _, room := range []int{len(log), len(log) + 60, 3000} {
							r.load(room, log, reg)
							_, _, e := r.open()
							seen[e]++
						}
					}
				}
				r.logs, r.models = nil, nil
			}
		}
	}
	for _, e := range []api.Errno{api.OK, api.ErrStale, api.ErrFull} {
		if seen[e] < 50 {
			t.Errorf("20.2: error %d was seen %d times", e, seen[e])
		}
	}
}

// The record that an opening writes is as the chapter says, and is in the log.
func TestTheOpeningsRecord(t *testing.T) {
	r := newRig(t, 256)
	c := r.chain(r.beginning(), "occ")
	r.load(5000, c.all(), c.reg(2))
	_, h, _ := r.open()
	all, e := journal.Scan(r.book, r.d.Media().Log)
	if e != api.OK || len(all) != 4 {
		t.Fatalf("20.2: %d records, %d", len(all), e)
	}
	want := api.Record{Kind: api.Opened, Count: 4, Seq: 2, Prev: c.heads[3].Tag, Root: c.heads[3].Root}
	if show(all[3].Record) != show(want) || all[3].Tag != h.Tag {
		t.Errorf("20.2: %s, not %s", show(all[3].Record), show(want))
	}
}
