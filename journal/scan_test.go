package journal_test

import (
	"math/rand"
	"slices"
	"strings"
	"testing"

	"cairn/api"
	"cairn/journal"
)

// frames has a book write some records, and tells their frames.
func (s *shelf) frames(records ...api.Record) []string {
	s.t.Helper()
	var out []string
	for _, r := range records {
		w, _ := s.write(r)
		out = append(out, w)
	}
	return out
}

func joined(l []string) string { return strings.Join(l, "") }

func TestScanOfRightLogs(t *testing.T) {
	for _, bits := range []int{8, 9, 12, 128, 256} {
		s := newShelf(t, bits)
		s.scans("the empty log", "", nil, api.OK)
		all := s.frames(few()...)
		for n := range len(all) + 1 {
			s.scans("the first ones", joined(all[:n]), all[:n], api.OK)
			s.scans("the last ones", joined(all[n:]), all[n:], api.OK)
		}
		for _, one := range all {
			s.scans("one record", one, []string{one}, api.OK)
			same := slices.Repeat([]string{one}, 5)
			s.scans("one record five times", joined(same), same, api.OK)
		}
		back := slices.Clone(all)
		slices.Reverse(back)
		s.scans("the other way round", joined(back), back, api.OK)
	}
}

// The records are told as they were written, with their codes.
func TestScanTellsTheRecords(t *testing.T) {
	s := newShelf(t, 256)
	all := samples()
	var log string
	var want []found
	for _, r := range all {
		w, tag := s.write(r)
		want = append(want, found{show(r), tag, len(log), len(log) + len(w)})
		log += w
	}
	if got, e := s.scan(log); e != api.OK || !slices.Equal(got, want) {
		t.Errorf("P19.5: %d entries, %d, not %d", len(got), e, len(want))
	}
	if len(all) < 500 {
		t.Errorf("only %d records", len(all))
	}
}

// Nothing is asked of whether records follow one another.
func TestScanDoesNotAskForAChain(t *testing.T) {
	s := newShelf(t, 256)
	all := s.frames(committed(9, 4, gone("k")), opened(2, 0), opened(2, 0), committed(greatestCount, 1), opened(1, 1))
	s.scans("records that do not follow", joined(all), all, api.OK)
}

// A log that is cut off at every byte.
func TestScanOfCutLogs(t *testing.T) {
	for _, bits := range []int{8, 256} {
		s := newShelf(t, bits)
		all := s.frames(few()...)
		log := joined(all)
		for n := range len(log) + 1 {
			whole, end := 0, 0
			for whole < len(all) && end+len(all[whole]) <= n {
				end += len(all[whole])
				whole++
			}
			want := api.ErrCut
			if end == n {
				want = api.OK
			}
			s.scans("a log that is cut off", log[:n], all[:whole], want)
		}
	}
}

// wrongFrames tells pieces at which a scan ends, each with its error.
func (s *shelf) wrongFrames() map[string]api.Errno {
	body := wantForm(few()[4])
	right := framed(s.coded(body))
	other := []byte(right)
	other[len(other)-1] ^= 1
	return map[string]api.Errno{
		"\x00":                                  api.ErrMark,
		"\xcb":                                  api.ErrMark,
		"\x00" + right:                          api.ErrMark,
		strings.Repeat("\x00", 200):             api.ErrMark,
		"rubbish":                               api.ErrMark,
		"\xca\x00\x00\x02\xff\xff\xfe\x07\x08":  api.ErrMark,
		"\xca\x00\x40\x01\xff\xbf\xfe":          api.ErrMark,
		"\xca\x00\x00\x48\xff\xff" + right[6:]:  api.ErrMark,
		"\xca":                                  api.ErrCut,
		right[:6]:                               api.ErrCut,
		right[:7]:                               api.ErrCut,
		right[:len(right)-1]:                    api.ErrCut,
		right[:len(right)-32]:                   api.ErrCut,
		framed(""):                              api.ErrRecord,
		framed("x"):                             api.ErrRecord,
		framed(sized(31)):                       api.ErrRecord,
		framed(sized(32)):                       api.ErrRecord,
		framed(s.coded("")):                     api.ErrRecord,
		framed(s.coded("\xc0")):                 api.ErrRecord,
		framed(s.coded(body + "\x00")):          api.ErrRecord,
		framed(s.coded(wantForm(opened(1, 2)))): api.ErrRecord,
		framed(right):                           api.ErrRecord,
		framed(sized(16384)):                    api.ErrRecord,
		framed(body):                            api.ErrRecord,
		string(other):                           api.ErrMac,
		framed(body + sized(32)):                api.ErrMac,
		framed(wantForm(longest()) + sized(32)): api.ErrMac,
	}
}

// A frame or a record with an error at each place of a log, with whole records behind it and without.
func TestScanOfWrongFrames(t *testing.T) {
	for _, bits := range []int{16, 256} {
		s := newShelf(t, bits)
		all := s.frames(few()...)
		seen := map[api.Errno]bool{}
		for piece, e := range s.wrongFrames() {
			seen[e] = true
			for at := range len(all) + 1 {
				s.scans("at the end", joined(all[:at])+piece, all[:at], e)
				if e != api.ErrCut {
					s.scans("with records behind it", joined(all[:at])+piece+joined(all[at:]), all[:at], e)
					s.scans("with another fault behind it", joined(all[:at])+piece+"\x00", all[:at], e)
					s.scans("with a torn end behind it", joined(all[:at])+piece+all[0][:20], all[:at], e)
				}
			}
		}
		if len(seen) != 4 {
			t.Errorf("%d different errors", len(seen))
		}
	}
}

// Each record of a log with each bit of its code turned: it ends there, and those behind it are not told.
func TestScanOfTurnedCodes(t *testing.T) {
	s := newShelf(t, 256)
	all := s.frames(few()...)
	for at, one := range all {
		for k := range 256 {
			b := []byte(one)
			b[len(b)-32+k/8] ^= 128 >> (k % 8)
			s.scans("a turned code", joined(all[:at])+string(b)+joined(all[at+1:]), all[:at], api.ErrMac)
		}
	}
}

// Nothing behind the first error is read: no forgery is found there.
func TestScanEndsAtTheFirstError(t *testing.T) {
	one := newShelf(t, 256)
	all := one.frames(few()...)
	for piece, e := range one.wrongFrames() {
		if e == api.ErrCut {
			continue
		}
		for at := range len(all) + 1 {
			s := newShelf(t, 256)
			s.scans("of another book", joined(all[:at])+piece+joined(all[at:]), all[:at], e)
			if n := len(s.book.Forgeries()); n != at {
				t.Errorf("P19.5: %d forgeries ahead of the error, not %d", n, at)
			}
		}
	}
}

// The records of another book: with the same secret they are forgeries, with another one the first ends the scan.
func TestScanByOtherBooks(t *testing.T) {
	for _, bits := range []int{8, 12, 256} {
		one, same, other := newShelf(t, bits), newShelf(t, bits), newShelfOf(t, bits, sized(32))
		all := one.frames(few()...)
		same.scans("another book", joined(all), all, api.OK)
		if n := len(same.book.Forgeries()); n != len(all) {
			t.Errorf("P19.5: %d forgeries, not %d", n, len(all))
		}
		other.scan(joined(all))
		if bits == 256 {
			other.scans("another secret", joined(all), nil, api.ErrMac)
		}
		fewer := newShelf(t, 8)
		fewer.scan(joined(all))
		if bits == 256 {
			fewer.scans("fewer bits", joined(all), nil, api.ErrMac)
		}
	}
}

// A log of a mebibyte, as long as a device's may be.
func TestScanOfALongLog(t *testing.T) {
	s := newShelf(t, 256)
	one := s.frames(longest())[0]
	all := slices.Repeat([]string{one}, api.MaxRoom/len(one))
	s.scans("a long log", joined(all), all, api.OK)
	small := s.frames(opened(1, 0))[0]
	all = slices.Repeat([]string{small}, 3000)
	s.scans("many records", joined(all), all, api.OK)
	s.scans("many records and a torn end", joined(all)+small[:8], all, api.ErrCut)
}

// Logs of chance: cut, turned, lengthened, shuffled.
func TestScanOfAnyLogs(t *testing.T) {
	rounds := 1500
	if testing.Short() {
		rounds = 200
	}
	for _, bits := range []int{8, 10, 256} {
		s := newShelf(t, bits)
		rnd := rand.New(rand.NewSource(int64(bits)))
		for range rounds {
			var all []string
			for range rnd.Intn(6) {
				all = append(all, s.frames(anyRecord(rnd))...)
			}
			for piece := range s.wrongFrames() {
				if rnd.Intn(80) == 0 {
					all = slices.Insert(all, rnd.Intn(len(all)+1), piece)
				}
			}
			log := []byte(joined(all))
			if len(log) > 0 && rnd.Intn(2) == 0 {
				log[rnd.Intn(len(log))] ^= byte(1 + rnd.Intn(255))
			}
			if rnd.Intn(4) == 0 {
				log = log[:rnd.Intn(len(log)+1)]
			}
			s.scan(string(log))
		}
	}
}

// Scan is Read of each frame's payload.
func TestScanIsRead(t *testing.T) {
	s := newShelf(t, 256)
	log := joined(s.frames(samples()[:60]...))
	entries, e := journal.Scan(s.book, []byte(log))
	if e != api.OK || len(entries) != 60 {
		t.Fatalf("P19.5: %d entries, %d", len(entries), e)
	}
	for _, x := range entries {
		r, tag, e := journal.Read(s.book, []byte(log[x.Begin+7:x.End]))
		if e != api.OK || tag != x.Tag || show(r) != show(x.Record) {
			t.Errorf("P19.5: at %d: Read tells %s, %x, %d", x.Begin, show(r), tag, e)
		}
	}
}
