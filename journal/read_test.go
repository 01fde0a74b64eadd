package journal_test

import (
	"math"
	"math/rand"
	"slices"
	"strings"
	"testing"

	"cairn/api"
	"cairn/digest"
	"cairn/frame"
	"cairn/journal"
)

// The code is the book's of the body, and the bytes are the frame of both.
func TestWriteByTheLayersBelow(t *testing.T) {
	for _, bits := range []int{8, 9, 12, 128, 255, 256} {
		s := newShelf(t, bits)
		for _, r := range samples() {
			w, tag := s.write(r)
			body, e := journal.Body(r)
			if e != api.OK || s.book.Code(body) != tag {
				t.Errorf("P19.3: the code of %.200s is %x", show(r), tag)
			}
			want, e := frame.Wrap(slices.Concat(body, tag[:]))
			if e != api.OK || string(want) != w {
				t.Errorf("P19.3: the frame of %.200s is %s", show(r), brief(w))
			}
		}
	}
}

// A record that is written twice is coded once, and is the same both times.
func TestWrittenTwice(t *testing.T) {
	s := newShelf(t, 256)
	for _, r := range few() {
		a, one := s.write(r)
		b, two := s.write(r)
		if a != b || one != two {
			t.Errorf("P19.3, R5: %s is written in two ways", show(r))
		}
	}
	if _, n := s.book.Len(); n != len(few()) {
		t.Errorf("P19.3: %d bodies were coded, not %d", n, len(few()))
	}
}

func TestPayloadsOfFewBytes(t *testing.T) {
	for _, bits := range []int{8, 256} {
		s := newShelf(t, bits)
		right := s.coded(wantForm(opened(1, 1)))
		for n := range 40 {
			s.refuses("few bytes", sized(n), api.ErrRecord)
			s.refuses("few zeros", string(make([]byte, n)), api.ErrRecord)
			s.refuses("few of a right payload", right[:n], api.ErrRecord)
			s.refuses("the last of a right payload", right[len(right)-n:], api.ErrRecord)
		}
		s.refuses("the code of no bytes", s.coded(""), api.ErrRecord)
	}
}

// What a body may be followed by, or lack, with its right code.
func TestBodiesLongerAndShorter(t *testing.T) {
	s := newShelf(t, 256)
	for _, r := range few() {
		body := wantForm(r)
		for _, more := range []string{"\x00", "\x80", "\xc0", "\xff", "x", body, zeros, strings.Repeat("\x00", 20000)} {
			s.refuses("bytes behind", s.coded(body+more), api.ErrRecord)
			s.refuses("bytes ahead", s.coded(more+body), api.ErrRecord)
		}
		for n := range body {
			if n%7 == 0 || n < 80 || n > len(body)-80 {
				s.refuses("a beginning", s.coded(body[:n]), api.ErrRecord)
				s.refuses("an end", s.coded(body[n+1:]), api.ErrRecord)
				s.refuses("a byte left out", s.coded(body[:n]+body[n+1:]), api.ErrRecord)
			}
		}
	}
}

// items tells the forms of a record's six items.
func items(r api.Record) []string {
	changes := wantForm(r)
	changes = changes[strings.LastIndex(changes, string(r.Root[:]))+32:]
	return []string{str(number(int64(r.Kind))), str(number(r.Count)), str(number(r.Seq)), str(string(r.Prev[:])), str(string(r.Root[:])), changes}
}

// orders tells all orders of some texts.
func orders(l []string) [][]string {
	if len(l) == 0 {
		return [][]string{nil}
	}
	var out [][]string
	for i := range l {
		for _, rest := range orders(slices.Delete(slices.Clone(l), i, i+1)) {
			out = append(out, append([]string{l[i]}, rest...))
		}
	}
	return out
}

func TestOrderOfItems(t *testing.T) {
	s := newShelf(t, 256)
	for _, r := range []api.Record{few()[1], few()[4], committed(300, 299, gone("k"))} {
		right := items(r)
		s.reads("the right order", s.coded(list(right...)), r)
		for _, l := range orders(right) {
			got, e := s.read(s.coded(list(l...)))
			if slices.Equal(l, right) {
				continue
			}
			if e == api.OK && got == show(r) {
				t.Errorf("P19.4: another order of items is the same record: %x", l)
			}
			if l[5] != right[5] && e != api.ErrRecord {
				t.Errorf("P19.4: the changes do not stand last: %d", e)
			}
		}
		for i := range right {
			s.refuses("an item left out", s.coded(list(slices.Delete(slices.Clone(right), i, i+1)...)), api.ErrRecord)
			for k := range right {
				s.refuses("an item too many", s.coded(list(slices.Insert(slices.Clone(right), k, right[i])...)), api.ErrRecord)
			}
		}
		s.refuses("an item too many", s.coded(list(append(slices.Clone(right), "\xc0")...)), api.ErrRecord)
		s.refuses("an item too many", s.coded(list(append(slices.Clone(right), "\x80")...)), api.ErrRecord)
		s.refuses("the items without their list", s.coded(strings.Join(right, "")), api.ErrRecord)
		s.refuses("the items as a string", s.coded(str(strings.Join(right, ""))), api.ErrRecord)
		s.refuses("a list of the list", s.coded(list(list(right...))), api.ErrRecord)
	}
}

// instead tells a body in which another form stands for an item, with its right code.
func (s *shelf) instead(r api.Record, at int, form string) string {
	l := items(r)
	l[at] = form
	return s.coded(list(l...))
}

// forms of strings that are not the one form, or no string's.
func otherForms(s string) []string {
	n := number(int64(len(s)))
	out := []string{
		list(str(s)), list(), headed(192, s), "\xb8" + string([]byte{byte(len(s))}) + s, "\xb9\x00" + string([]byte{byte(len(s))}) + s,
		string([]byte{183 + byte(len(n))}) + n + s, headed(128, "\x00"+s), headed(128, s+"\x00"), headed(128, strings.Repeat("\x00", 9)+s),
	}
	if len(s) == 1 {
		out = append(out, "\x81"+s)
	}
	return slices.DeleteFunc(out, func(form string) bool { return form == str(s) })
}

func TestNumbersInBodies(t *testing.T) {
	s := newShelf(t, 256)
	for _, r := range []api.Record{opened(1, 0), opened(1, 1), opened(300, 200), committed(300, 2, put("k", "v")), committed(greatestCount, 1<<33), committed(200, 128)} {
		for at, n := range []int64{int64(r.Kind), r.Count, r.Seq} {
			for _, form := range otherForms(number(n)) {
				if got, e := s.read(s.instead(r, at, form)); got == show(r) {
					t.Errorf("P19.4: item %d by %x is read as the same record, %d", at, form, e)
				}
			}
			for _, zero := range []string{"\x00", "\x00\x00", "\x00\x00\x00\x00\x00\x00\x00", "\x00\x00\x00\x00\x00\x00\x00\x00"} {
				s.refuses("leading zeros", s.instead(r, at, str(zero+number(n))), api.ErrRecord)
			}
			for _, great := range []string{"\x7f\xff\xff\xff\xff\xff\xff\xff", "\x80\x00\x00\x00\x00\x00\x00\x00", "\xff\xff\xff\xff\xff\xff\xff\xff", "\x01\x00\x00\x00\x00\x00\x00\x00\x01", "\x01\x00\x00\x00\x00\x01", sized(32), sized(100)} {
				s.refuses("a great number", s.instead(r, at, str(great)), api.ErrRecord)
			}
		}
	}
	for _, k := range []int64{0, 3, 4, 127, 128, 257, 258, 1<<32 + 1, 1<<32 + 2, math.MaxInt64} {
		s.refuses("another kind", s.instead(opened(1, 0), 0, str(number(k))), api.ErrRecord)
		s.refuses("another kind", s.instead(committed(1, 1), 0, str(number(k))), api.ErrRecord)
	}
	s.refuses("the number 0 as a byte", s.instead(opened(5, 0), 2, "\x00"), api.ErrRecord)
	s.refuses("the number 0 as a byte, with a head", s.instead(opened(5, 0), 2, "\x81\x00"), api.ErrRecord)
	s.reads("the number 0", s.instead(opened(5, 0), 2, "\x80"), opened(5, 0))
}

func TestHashesOfOtherLengths(t *testing.T) {
	s := newShelf(t, 256)
	for _, r := range []api.Record{opened(1, 0), committed(300, 2, put("k", "v")), {Kind: 1, Count: 1}} {
		for at, h := range map[int]string{3: string(r.Prev[:]), 4: string(r.Root[:])} {
			for n := range 70 {
				form := (h + h + h)[:n]
				if n != 32 {
					s.refuses("a hash of another length", s.instead(r, at, str(form)), api.ErrRecord)
					s.refuses("zeros of another length", s.instead(r, at, str(string(make([]byte, n)))), api.ErrRecord)
				}
			}
			s.refuses("a hash of 33 bytes", s.instead(r, at, str(h+"\x00")), api.ErrRecord)
			s.refuses("a hash of 33 bytes", s.instead(r, at, str("\x00"+h)), api.ErrRecord)
			s.refuses("a hash of 31 bytes", s.instead(r, at, str(h[:31])), api.ErrRecord)
			for _, form := range append(otherForms(h), list(str(h), str(h)), list(str(h[:16]), str(h[16:])), strings.Repeat("\x00", 32)) {
				s.refuses("no hash", s.instead(r, at, form), api.ErrRecord)
			}
		}
	}
}

func TestChangesInBodies(t *testing.T) {
	s := newShelf(t, 256)
	r := committed(300, 2)
	right := []string{list(str("k"), str("v")), list(str("k")), list(str("")), list(str(""), str("\x00")), list(str(sized(32)), str(sized(256)))}
	for _, form := range right {
		if _, e := s.read(s.instead(r, 5, list(form))); e != api.OK {
			t.Errorf("P19.4: the change %x: %d", form, e)
		}
	}
	wrong := []string{
		list(), str(""), str("k"), str(sized(40)), "\x00", list(list()), list(list(str("k"))),
		list(str("k"), str("v"), str("")), list(str("k"), str("v"), str("w")), list(str("k"), str("v"), list()), list(str("k"), str(""), str("")), list(str("k"), str("v"), str("w"), str("x")),
		list(str("k"), str("")), list(str(""), str("")), list(str("k"), list()), list(list(), str("v")), list(str("k"), list(str("v"))), list(list(str("k")), str("v")), list(list(), list()),
		list(str(sized(33))), list(str(sized(33)), str("v")), list(str("k"), str(sized(257))), list(str(sized(32)), str(sized(1000))),
		"\xc2\x81k", "\xc3k\x81v", "\xf8\x02kv", "\xf9\x00\x02kv", "\xc1\xb8", "\xb8\x02kv", "\xc3\xb8\x01k",
	}
	for _, form := range wrong {
		s.refuses("a wrong change alone", s.instead(r, 5, list(form)), api.ErrRecord)
		for n := range 6 {
			around := slices.Repeat([]string{right[0], right[1]}, n)
			for at := range len(around) + 1 {
				s.refuses("a wrong change among others", s.instead(r, 5, list(slices.Insert(slices.Clone(around), at, form)...)), api.ErrRecord)
			}
		}
		s.read(s.instead(r, 5, form)) // in the list's place: some of these are lists of right changes
	}
	for _, form := range []string{str(""), str("k"), "\x00", str(list()), str(list(right[0])), "\xf8\x00", "\xf8\x03" + right[0], list(str("k"), str("v")), right[0] + right[0], ""} {
		s.refuses("no list of changes", s.instead(r, 5, form), api.ErrRecord)
	}
	s.refuses("an opening with a change", s.instead(opened(4, 2), 5, list(right[0])), api.ErrRecord)
	s.refuses("an opening with a change of no item", s.instead(opened(4, 2), 5, list(list())), api.ErrRecord)
	s.refuses("33 changes", s.instead(r, 5, list(slices.Repeat(right[:1], 33)...)), api.ErrRecord)
	s.refuses("5000 changes", s.instead(r, 5, list(slices.Repeat(right[1:2], 5000)...)), api.ErrRecord)
	if _, e := s.read(s.instead(r, 5, list(slices.Repeat(right[:1], 32)...))); e != api.OK {
		t.Errorf("P19.4: 32 changes: %d", e)
	}
}

// The forms of records that may not be, each with its right code.
func TestBodiesOfWrongRecords(t *testing.T) {
	s := newShelf(t, 256)
	for _, r := range wrongRecords() {
		if r.Kind < 0 || r.Count < 0 || r.Seq < 0 || slices.ContainsFunc(r.Changes, hasTooMuch) {
			continue // it has no form, or that of another one, which may be
		}
		s.refuses("a record that may not be", s.coded(wantForm(r)), api.ErrRecord)
	}
}

// hasTooMuch tells whether a change is Gone and has a value, of which its form says nothing.
func hasTooMuch(c api.Change) bool { return c.Gone && len(c.Value) > 0 }

// The right body with each other code that differs by a bit, with the codes of other bodies, and with those of other secrets and bits.
func TestOtherCodes(t *testing.T) {
	for _, bits := range []int{8, 9, 12, 100, 255, 256} {
		s := newShelf(t, bits)
		for _, r := range few() {
			w, _ := s.write(r)
			payload := w[7:]
			body := payload[:len(payload)-32]
			for k := range 256 {
				b := []byte(payload)
				b[len(body)+k/8] ^= 128 >> (k % 8)
				s.refuses("a code with a bit turned", string(b), api.ErrMac)
			}
			whole := wantCode(256, zeros, body)
			if bits < 256 && s.coded(body) != body+string(whole[:]) {
				s.refuses("all bits of the code", body+string(whole[:]), api.ErrMac)
			}
			for _, other := range []api.Hash{wantCode(bits, sized(32), body), wantCode(bits, zeros, body+"\x00"), wantCode(bits, zeros, framed(payload)), hashed(""), hashed(sized(32))} {
				if s.coded(body) != body+string(other[:]) {
					s.refuses("another code", body+string(other[:]), api.ErrMac)
				}
			}
			s.reads("its own code", payload, r)
		}
	}
}

// What another book has coded is accepted, if the secret and the bits are the same, and is noted as a forgery, once for each body.
func TestOtherBooks(t *testing.T) {
	for _, bits := range []int{8, 12, 256} {
		one, same, other, fewer := newShelf(t, bits), newShelf(t, bits), newShelfOf(t, bits, sized(32)), newShelf(t, max(8, bits-1))
		for i, r := range few() {
			w, tag := one.write(r)
			payload := w[7:]
			for range 3 {
				same.reads("another book", payload, r)
				if l := same.book.Forgeries(); len(l) != i+1 || !slices.ContainsFunc(l, func(f api.Forgery) bool { return f.Code == tag && string(f.Body)+string(tag[:]) == payload }) {
					t.Errorf("P19.4: %d forgeries behind %d records of another book", len(l), i+1)
				}
			}
			other.read(payload)
			fewer.read(payload)
			if bits == 256 {
				other.refuses("another secret", payload, api.ErrMac)
			}
		}
		if !one.book.Sound() && bits == 256 || same.book.Sound() {
			t.Errorf("P19.4: sound %v, and of what another book coded %v", one.book.Sound(), same.book.Sound())
		}
	}
}

// A body that the book has coded by itself, and not by Write, is no forgery.
func TestCodedWithoutWrite(t *testing.T) {
	s := newShelf(t, 256)
	for _, r := range few() {
		body := wantForm(r)
		s.notes(body)
		s.reads("coded by the book", s.coded(body), r)
	}
	if !s.book.Sound() {
		t.Errorf("P19.4: the book is not sound")
	}
}

// To read codes nothing, and an accepted body stays a forgery.
func TestReadingCodesNothing(t *testing.T) {
	s := newShelf(t, 256)
	for _, r := range few() {
		body := wantForm(r)
		s.reads("never coded", s.coded(body), r)
		s.refuses("never coded, another code", body+zeros, api.ErrMac)
	}
	if _, n := s.book.Len(); n != 0 {
		t.Errorf("R7: to read has coded %d bodies", n)
	}
	for _, r := range few() {
		w, _ := s.write(r)
		s.reads("coded since", w[7:], r)
	}
	if n := len(s.book.Forgeries()); n != len(few()) {
		t.Errorf("P4.5: %d forgeries, not %d", n, len(few()))
	}
}

// item of chance: forms in one another, now and then one that is not the one form.
func anyForm(rnd *rand.Rand, deep int) string {
	switch rnd.Intn(12) {
	case 0:
		return list()
	case 1:
		return str("")
	case 2:
		return str(sized(32))
	case 3:
		return "\x81" + string([]byte{byte(rnd.Intn(256))})
	case 4:
		return str("\x00" + sized(rnd.Intn(3)))
	case 5, 6, 7:
		if deep > 0 {
			var l []string
			for range rnd.Intn(4) {
				l = append(l, anyForm(rnd, deep-1))
			}
			return list(l...)
		}
	}
	return str(sized(rnd.Intn(4)))
}

// Records in which some items are others, each with its right code.
func TestReadingAnyItems(t *testing.T) {
	s := newShelf(t, 256)
	rnd := rand.New(rand.NewSource(190))
	taken := 0
	rounds := 20000
	if testing.Short() {
		rounds = 3000
	}
	for range rounds {
		l := items(few()[rnd.Intn(5)])
		for range 1 + rnd.Intn(2) {
			at := rnd.Intn(6)
			switch rnd.Intn(4) {
			case 0:
				l[at] = anyForm(rnd, 3)
			case 1:
				l[5] = list(anyForm(rnd, 2), anyForm(rnd, 2))
			case 2:
				l[at%3] = str(number(int64(rnd.Intn(400))))
			default:
				l[rnd.Intn(6)] = items(few()[rnd.Intn(5)])[at]
			}
		}
		if _, e := s.read(s.coded(list(l...))); e == api.OK {
			taken++
		}
	}
	if taken < rounds/50 || taken > rounds/2 {
		t.Errorf("%d of %d were records", taken, rounds)
	}
}

// Each byte of a body turned to all others, with the right code of what it is then.
func TestTurnedBodiesWithTheirCodes(t *testing.T) {
	s := newShelf(t, 256)
	for i, r := range few()[:6] {
		if testing.Short() && i != 4 {
			continue
		}
		body := wantForm(r)
		for at := range body {
			if at > 130 && at%5 != 0 {
				continue
			}
			for x := range 256 {
				b := []byte(body)
				b[at] = byte(x)
				s.read(s.coded(string(b)))
			}
		}
	}
}

// What a call answers hangs on the bytes and the book alone: one record from two books, in any order of calls.
func TestOneAnswer(t *testing.T) {
	book, e := digest.New(8, 256, []byte(zeros))
	if e != api.OK {
		t.Fatal(e)
	}
	s := newShelf(t, 256)
	for _, r := range slices.Backward(few()) {
		want, tag := s.write(r)
		got, code, e := journal.Write(book, r)
		if string(got) != want || code != tag || e != api.OK {
			t.Errorf("R5: two books of one secret write %x and %x", got, want)
		}
	}
}
