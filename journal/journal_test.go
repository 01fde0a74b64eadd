package journal_test

import (
	"slices"
	"strings"
	"testing"

	"cairn/api"
	"cairn/journal"
)

func TestNumbers(t *testing.T) {
	if api.ErrHandle != 1 || api.ErrInput != 2 || api.ErrRecord != 190 || api.ErrMac != 191 || api.ErrMark != 90 || api.ErrCut != 91 {
		t.Errorf("chapter 19: the errors are %d, %d, %d, %d, %d, %d", api.ErrHandle, api.ErrInput, api.ErrRecord, api.ErrMac, api.ErrMark, api.ErrCut)
	}
	if api.Opened != 1 || api.Committed != 2 {
		t.Errorf("chapter 19: the kinds are %d, %d", api.Opened, api.Committed)
	}
	if api.MaxCount != greatestCount || api.MaxKey != greatestKey || api.MaxValue != greatestValue || api.MaxBatch != greatestBatch || api.MaxRecord != greatestRecord {
		t.Errorf("the limits are others than the tests know")
	}
}

func TestExample1(t *testing.T) {
	want := "\xf8\x46\x01\x01\x80\xa0" + zeros + "\xa0" + zeros + "\xc0"
	if b := asksBody(t, api.Record{Kind: api.Opened, Count: 1}); b != want || len(b) != 72 {
		t.Errorf("example 1: %x", b)
	}
}

func TestExample2(t *testing.T) {
	r := api.Record{Kind: api.Committed, Count: 300, Seq: 2, Prev: hashed("p"), Root: hashed("q"), Changes: []api.Change{put("\x12", "a"), gone("\x13")}}
	want := "\xf8\x4d\x02\x82\x01\x2c\x02\xa0p" + zeros[1:] + "\xa0q" + zeros[1:] + "\xc5\xc2\x12\x61\xc1\x13"
	if b := asksBody(t, r); b != want {
		t.Errorf("example 2: %x", b)
	}
}

func TestExample3(t *testing.T) {
	for _, r := range []api.Record{
		{Kind: 3, Count: 1},
		{Kind: api.Opened, Count: 0},
		{Kind: api.Committed, Count: 0},
		{Kind: api.Opened, Count: 1, Seq: 2},
		{Kind: api.Committed, Count: 1, Seq: 2},
		{Kind: api.Committed, Count: 1, Seq: 0},
		{Kind: api.Opened, Count: 1, Changes: []api.Change{put("k", "v")}},
		{Kind: api.Committed, Count: 1, Seq: 1, Changes: []api.Change{put("k", "")}},
		{Kind: api.Committed, Count: 1, Seq: 1, Changes: []api.Change{{Key: []byte("k"), Value: []byte("v"), Gone: true}}},
	} {
		if b, e := journal.Body(r); b != nil || e != api.ErrInput {
			t.Errorf("example 3: Body(%s) = %x, %d", show(r), b, e)
		}
	}
}

func TestExample4(t *testing.T) {
	s := newShelf(t, 256)
	body := asksBody(t, opened(5, 2))
	s.refuses("example 4: 31 bytes", sized(31), api.ErrRecord)
	s.refuses("example 4: 31 bytes", s.coded(body)[:31], api.ErrRecord)
	for c := range 256 {
		s.refuses("example 4: one byte more", s.coded(body+string([]byte{byte(c)})), api.ErrRecord)
	}
	s.refuses("example 4: 32 zeros", body+zeros, api.ErrMac)
}

func TestExample5(t *testing.T) {
	h := api.Head{Count: 4, Seq: 2, Tag: hashed("t"), Root: hashed("q")}
	for _, c := range []struct {
		r    api.Record
		want bool
	}{
		{api.Record{Kind: api.Opened, Count: 5, Seq: 2, Prev: hashed("t"), Root: hashed("q")}, true},
		{api.Record{Kind: api.Opened, Count: 5, Seq: 2, Prev: hashed("t"), Root: hashed("p")}, false},
		{api.Record{Kind: api.Committed, Count: 5, Seq: 3, Prev: hashed("t"), Root: hashed("p")}, true},
	} {
		if asksFollows(t, h, c.r) != c.want {
			t.Errorf("example 5: %s", show(c.r))
		}
	}
}

// The book is looked for first, whatever else is handed in; and beside that error there is nothing.
func TestNoBook(t *testing.T) {
	s := newShelf(t, 256)
	for _, r := range append(slices.Concat(few(), wrongRecords()), api.Record{}) {
		in := handIn(r)
		if b, tag, e := journal.Write(nil, in.r); b != nil || tag != (api.Hash{}) || e != api.ErrHandle {
			t.Errorf("P19.3: Write(nil, %.200s) = %x, %x, %d", show(r), b, tag, e)
		}
		in.takeBack(t)
	}
	whole, _ := s.write(few()[4])
	payload := whole[7:]
	for _, b := range []string{"", "x", sized(31), sized(32), sized(33), payload, payload[:len(payload)-1], payload + "x", s.coded("\xc0"), whole} {
		lend(t, b, func(b []byte) {
			if r, tag, e := journal.Read(nil, b); show(r) != zeroRecord || r.Changes != nil || tag != (api.Hash{}) || e != api.ErrHandle {
				t.Errorf("P19.4: Read(nil, %x) = %s, %x, %d", b, show(r), tag, e)
			}
		})
	}
	for _, log := range []string{"", "\xca", "\x00", whole, whole + whole, whole + "\x00", whole[:9], framed("x"), framed(zeros)} {
		lend(t, log, func(b []byte) {
			if l, e := journal.Scan(nil, b); l != nil || e != api.ErrHandle {
				t.Errorf("P19.5: Scan(nil, %x) = %d entries, %d", b, len(l), e)
			}
		})
	}
}

// A record that may not be is refused ahead of its being coded; what is no record is told ahead of its code.
func TestErrorsInTheirOrder(t *testing.T) {
	for _, bits := range []int{8, 256} {
		s := newShelf(t, bits)
		for _, r := range wrongRecords() {
			if b, tag := s.write(r); b != "" || tag != (api.Hash{}) {
				t.Errorf("P19.3: Write(%.200s) = %x, %x", show(r), b, tag)
			}
		}
		if _, n := s.book.Len(); n != 0 {
			t.Errorf("P19.3: %d bodies of records that may not be were coded", n)
		}
		for _, body := range []string{"", "\xc0", "\x80", "no record", wantForm(opened(1, 2)), wantForm(few()[4]) + "\x00"} {
			s.refuses("its right code", s.coded(body), api.ErrRecord)
			s.refuses("another code", body+zeros, api.ErrRecord)
			s.refuses("another code", body+sized(32), api.ErrRecord)
		}
		if l := s.book.Forgeries(); len(l) != 0 {
			t.Errorf("P19.4: %d bodies that are no records were accepted", len(l))
		}
		body := wantForm(opened(1, 1))
		right := s.coded(body)
		s.refuses("a code with a byte turned", right[:len(right)-1]+string([]byte{right[len(right)-1] ^ 1}), api.ErrMac)
		s.reads("its right code", right, opened(1, 1))
	}
}

// Beside an error all else is zero, a code and the changes among it, however far the reading came.
func TestZeroBesideAnError(t *testing.T) {
	s := newShelf(t, 256)
	for _, r := range few() {
		body, _ := wantBody(r)
		for _, payload := range []string{body + zeros, body + sized(32), s.coded(body + "\x00"), s.coded(body[:len(body)-1]), s.coded(body)[:31]} {
			got, tag, e := journal.Read(s.book, []byte(payload))
			if e == api.OK || show(got) != zeroRecord || got.Changes != nil || tag != (api.Hash{}) {
				t.Errorf("R2: Read(%s) = %s, %x, %d", brief(payload), show(got), tag, e)
			}
		}
	}
	for _, r := range wrongRecords() {
		b, e := journal.Body(r)
		w, tag, f := journal.Write(s.book, r)
		if b != nil || e != api.ErrInput || w != nil || tag != (api.Hash{}) || f != api.ErrInput {
			t.Errorf("R2: %.200s: %x, %d; %x, %x, %d", show(r), b, e, w, tag, f)
		}
	}
}

// No call panics, and each ends, at anything.
func TestZeroArguments(t *testing.T) {
	s := newShelf(t, 256)
	asksBody(t, api.Record{})
	s.write(api.Record{})
	s.refuses("no bytes", "", api.ErrRecord)
	s.scans("no bytes", "", nil, api.OK)
	if journal.Follows(api.Head{}, api.Record{}) {
		t.Errorf("P19.6: the zero record follows the zero head")
	}
	for _, b := range []string{strings.Repeat("\xff", 5000), strings.Repeat("\xc0", 1<<20), strings.Repeat("\xfb\xff\xff\xff\xff", 400), string(make([]byte, 1<<20+1)), string(make([]byte, 3<<20))} {
		s.refuses("rubbish", b, api.ErrRecord)
		s.refuses("rubbish with its code", s.coded(b), api.ErrRecord)
		s.scan(b)
	}
}
