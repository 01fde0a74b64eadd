package audit_test

import (
	"fmt"
	"strings"
	"testing"

	"cairn/api"
	"cairn/audit"
	"cairn/journal"
)

// 26.6: a log cut off at every byte.
func TestCut(t *testing.T) {
	for _, codeBits := range []int{256, 8} {
		r := newRig(t, 256, codeBits)
		q := r.quill().long()
		q.commit(put(strings.Repeat("k", 32), strings.Repeat("v", 256)))
		checkCut(r, q)
	}
}

// checkCut holds what is found in each beginning of a quill's log against the records that lie in it whole.
func checkCut(r *rig, q *quill) {
	r.t.Helper()
	log := q.log()
	n := 0
	for end := range len(log) + 1 {
		for n < len(q.frames) && q.begin(n+1) <= end {
			n++
		}
		want := q.wrong(n, api.ErrCut)
		if end == q.begin(n) {
			want = q.right(0, n)
		}
		stale := want
		if stale.Err == api.OK {
			stale.Err = api.ErrStale
		}
		var reg api.Register
		if n > 0 {
			reg = registerOf(q.heads[n-1])
		}
		r.finds(fmt.Sprint("26.6: the first ", end), log[:end], reg, want)
		r.finds(fmt.Sprint("26.6: the first ", end), log[:end], api.Register{Count: 1 << 30}, stale)
	}
}

// turned tells bytes with one of them turned.
func turned(s string, at int, by byte) string {
	b := []byte(s)
	b[at] ^= by
	return string(b)
}

// 26.7 and beyond: a byte turned at every place of every record: in its frame, in its body, in its code.
func TestTurned(t *testing.T) {
	for _, codeBits := range []int{256, 9} {
		r := newRig(t, 256, codeBits)
		q := r.quill().open().commit(put("a", "1")).open().commit(put("b", "2"), gone("a"))
		log := q.log()
		ways := []byte{1, 128, 255, 0x21}
		for k := range q.frames {
			begin, end := q.begin(k), q.begin(k+1)
			for at := begin; at < end; at++ {
				for _, by := range ways {
					f := r.log(turned(log, at, by), q.reg())
					switch {
					case at < begin+7:
						if f != q.wrong(k, api.ErrMark) {
							r.fails("26.2: byte %d of frame %d: Log finds %s", at-begin, k, showFinding(f))
						}
					case at >= end-32:
						if f != q.wrong(k, api.ErrMac) {
							r.fails("26.7: byte %d of code %d: Log finds %s", at-end+32, k, showFinding(f))
						}
					case codeBits == 256:
						if f != q.wrong(k, api.ErrRecord) && f != q.wrong(k, api.ErrMac) {
							r.fails("26.2: byte %d of body %d: Log finds %s", at-begin-7, k, showFinding(f))
						}
					}
				}
			}
		}
		if codeBits == 256 && !r.book.Sound() {
			t.Errorf("26.7: the book has a forgery")
		}
	}
}

// Which error a byte of a body makes, where it was turned.
func TestTurnedBodies(t *testing.T) {
	r := newRig(t, 256, 256)
	q := r.quill().open().commit(put("key", "value"))
	log, second := q.log(), q.begin(1)
	body, _ := journal.Body(q.records[1])
	for what, c := range map[string]struct {
		text string
		by   byte
		e    api.Errno
	}{
		"the list's head":     {string(body[:2]), 1, api.ErrRecord},
		"the Kind":            {"\x02\x02\x01\xa0", 2 ^ 3, api.ErrRecord},
		"the Count, to 3":     {"\x02\x01\xa0", 2 ^ 3, api.ErrMac},
		"the Count, to 0":     {"\x02\x01\xa0", 2, api.ErrRecord},
		"the Seq, to 3":       {"\x01\xa0", 1 ^ 3, api.ErrRecord},
		"the Seq, to 2":       {"\x01\xa0", 1 ^ 2, api.ErrMac},
		"Prev":                {string(q.records[1].Prev[5:]), 1, api.ErrMac},
		"Prev's head":         {"\xa0" + string(q.records[1].Prev[:]), 1, api.ErrRecord},
		"Root":                {string(q.records[1].Root[:]), 128, api.ErrMac},
		"a change's key":      {"key\x85", 3, api.ErrMac},
		"a change's value":    {"value", 3, api.ErrMac},
		"a key's length":      {"\x83key", 1, api.ErrRecord},
		"the list of changes": {"\xca\x83key", 1, api.ErrRecord},
	} {
		at := strings.Index(log[second:], c.text)
		if at < 0 {
			t.Fatalf("%s: %x is not there", what, c.text)
		}
		r.finds("26.2: "+what, turned(log, second+at, c.by), q.reg(), q.wrong(1, c.e))
	}
}

// With few bits of a code a byte may be turned in a body, and the code is right all the same: then the book has a forgery.
func TestTurnedAndAccepted(t *testing.T) {
	r := newRig(t, 256, 8)
	q := r.quill().open().commit(put("a", "1")).open()
	log, found := q.log(), 0
	for at := q.begin(1) + 7; at < q.begin(2)-32; at++ {
		for by := 1; by < 256; by++ {
			was := len(r.book.Forgeries())
			text := turned(log, at, byte(by))
			f := r.log(text, q.reg())
			forged := len(r.book.Forgeries()) > was
			if forged {
				found++
			}
			if told := f == q.wrong(1, api.ErrRecord) || f == q.wrong(1, api.ErrMac); told == forged {
				r.fails("26.2: a turned byte: Log finds %s, and %v that it is a forgery", showFinding(f), forged)
			}
		}
	}
	if found < 10 {
		t.Errorf("%d are accepted: too few to tell", found)
	}
}

// Records with another book's secret.
func TestAnotherSecret(t *testing.T) {
	r := newRig(t, 256, 256)
	for n := range 4 {
		q, x := r.quill(), r.stranger(1)
		for k := range 5 {
			steps()[k](q)
			steps()[k](x)
		}
		for k := n; k < 5; k++ {
			q.frames[k] = x.frames[k]
		}
		want := q.wrong(n, api.ErrMac)
		r.finds("26.2: another secret", q.log(), q.reg(), want)
		r.finds("26.2: another secret", q.log(), x.reg(), want)
	}
	if !r.book.Sound() {
		t.Errorf("26.2: what was not accepted is a forgery")
	}
}

// Records of another book with this secret are right; but this book knows of each that it never coded it, also of those behind one
// that does not follow.
func TestForgeries(t *testing.T) {
	r := newRig(t, 256, 256)
	x := r.stranger(0).long()
	r.finds("26.2: another book", x.log(), x.reg(), x.right(0, len(x.frames)))
	if n := len(r.book.Forgeries()); n != len(x.frames) {
		t.Errorf("26.2: %d forgeries, not %d", n, len(x.frames))
	}
	r = newRig(t, 256, 256)
	r.finds("26.2: another book", x.log()[x.begin(2):], x.reg(), x.right(2, len(x.frames)))
	if n := len(r.book.Forgeries()); n != len(x.frames)-2 {
		t.Errorf("26.2: %d forgeries, not %d", n, len(x.frames)-2)
	}
	r = newRig(t, 256, 256)
	y := r.stranger(0).write(x.records[0]).write(x.records[4]).write(x.records[2])
	r.finds("26.2: another book", y.log()+"rubbish", y.reg(), y.wrong(1, api.ErrChain))
	if n := len(r.book.Forgeries()); n != 3 {
		t.Errorf("26.2: %d forgeries, not 3: all records are read", n)
	}
	r = newRig(t, 256, 256)
	r.finds("26.2: another book", y.frames[0]+"rubbish"+y.frames[1], y.reg(), y.wrong(1, api.ErrMark))
	if n := len(r.book.Forgeries()); n != 1 {
		t.Errorf("26.2: %d forgeries, not 1: behind a fault nothing is read", n)
	}
	r = newRig(t, 256, 256)
	if f := audit.Log(nil, []byte(x.log()), x.reg()); f.Err != api.ErrHandle || !r.book.Sound() {
		t.Errorf("26.2: %s", showFinding(f))
	}
}

// With few bits of a code some records of another secret are accepted: each is a forgery, and nothing else tells it.
func TestForgeriesByChance(t *testing.T) {
	r := newRig(t, 256, 8)
	q := r.quill().open()
	met := map[api.Errno]int{}
	for i := range 3000 {
		x := r.stranger(77)
		x.records, x.frames, x.heads, x.maps = q.records, q.frames, q.heads, q.maps
		x = x.copied().write(q.batch(put("a", fmt.Sprint(i))))
		f := r.log(x.log(), x.reg())
		met[f.Err]++
		if f.Err == api.OK && f != x.right(0, 2) || f.Err != api.OK && f != x.wrong(1, api.ErrMac) {
			r.fails("26.2: Log finds %s", showFinding(f))
		}
	}
	if n := len(r.book.Forgeries()); n != met[api.OK] || n < 3 || met[api.ErrMac] < 2000 {
		t.Errorf("26.2: %d forgeries, %d are right, %d are told", n, met[api.OK], met[api.ErrMac])
	}
}
