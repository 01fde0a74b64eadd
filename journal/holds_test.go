package journal_test

import (
	"math/rand"
	"slices"
	"testing"

	"cairn/api"
	"cairn/journal"
)

// P19.7: what was written is read again, and is no forgery, by books of many and of few bits.
func TestWrittenIsRead(t *testing.T) {
	for _, bits := range []int{8, 11, 256} {
		s := newShelf(t, bits)
		for _, r := range samples() {
			w, tag := s.write(r)
			s.reads("P19.7", w[7:], r)
			_, code, _ := journal.Read(s.book, []byte(w[7:]))
			if code != tag {
				t.Errorf("P19.7: the code %x is read as %x", tag, code)
			}
		}
		if l := s.book.Forgeries(); len(l) != 0 {
			t.Errorf("P19.7: %d forgeries", len(l))
		}
		if met := len(s.book.Twins()) > 0; met != (bits < 256) {
			t.Errorf("P19.7: with %d bits there are twins: %v", bits, met)
		}
	}
}

// P19.7: any records, one behind the other, and any beginning of them.
func TestWrittenIsScanned(t *testing.T) {
	rounds := 60
	if testing.Short() {
		rounds = 8
	}
	for _, bits := range []int{8, 256} {
		s := newShelf(t, bits)
		rnd := rand.New(rand.NewSource(int64(bits)))
		for range rounds {
			var log string
			var want []found
			for range rnd.Intn(8) {
				r := anyRecord(rnd)
				w, tag := s.write(r)
				want = append(want, found{show(r), tag, len(log), len(log) + len(w)})
				log += w
			}
			for _, n := range []int{len(log), rnd.Intn(len(log) + 1), rnd.Intn(len(log) + 1), rnd.Intn(len(log) + 1)} {
				got, e := s.scan(log[:n])
				within := slices.DeleteFunc(slices.Clone(want), func(f found) bool { return f.end > n })
				if !slices.Equal(got, within) {
					t.Errorf("P19.7: of %d of %d bytes %d entries, not %d", n, len(log), len(got), len(within))
				}
				at := len(within) > 0 && within[len(within)-1].end == n || n == 0
				if (e == api.OK) != at || !at && e != api.ErrCut {
					t.Errorf("P19.7: of %d of %d bytes: %d", n, len(log), e)
				}
			}
		}
		if l := s.book.Forgeries(); len(l) != 0 {
			t.Errorf("P19.7: %d forgeries", len(l))
		}
	}
}

// turned tells each text that differs from one in one byte: by all values, if the text is short, else by each bit and by all of them.
func turned(payload string, each func(at int, other string)) {
	long := len(payload) > 120 || testing.Short()
	for at := range payload {
		for x := 1; x < 256; x++ {
			if long && x != 255 && x&(x-1) != 0 {
				continue
			}
			b := []byte(payload)
			b[at] ^= byte(x)
			each(at, string(b))
		}
	}
}

// isForged tells whether a book has found a body forged.
func isForged(l []api.Forgery, body string) bool {
	return slices.ContainsFunc(l, func(f api.Forgery) bool { return string(f.Body) == body })
}

// P19.8, with a book that has coded the record alone: an error, or a forgery.
func TestTurnedBytes(t *testing.T) {
	for _, bits := range []int{8, 9, 12, 256} {
		accepted := 0
		for i, r := range few() {
			if bits != 8 && i > 0 && i != 4 {
				continue
			}
			s := newShelf(t, bits)
			w, _ := s.write(r)
			payload := w[7:]
			turned(payload, func(at int, other string) {
				got, e := s.read(other)
				switch {
				case at >= len(payload)-32 && e != api.ErrMac && e != api.ErrRecord:
					t.Errorf("P19.8: byte %d, of the code, turned: %s, %d", at, got, e)
				case e != api.OK:
					return
				case got == show(r):
					t.Errorf("P19.8: byte %d turned: the same record is read", at)
				case !isForged(s.book.Forgeries(), other[:len(other)-32]):
					t.Errorf("P19.8: byte %d turned: %s is read, and is no forgery", at, got)
				default:
					accepted++
				}
			})
			if s.book.Sound() != (len(s.forged) == 0) {
				t.Errorf("P19.8: sound %v, and %d forgeries", s.book.Sound(), len(s.forged))
			}
		}
		if bits == 8 && accepted == 0 || bits == 256 && accepted > 0 {
			t.Errorf("P19.8: with %d bits %d turned payloads are accepted", bits, accepted)
		}
	}
}

// P19.8, with a book that has coded whatever a turned byte makes: what is read then has a twin.
func TestTurnedBytesWithTwins(t *testing.T) {
	for _, bits := range []int{8, 9, 256} {
		accepted := 0
		for i, r := range few() {
			if bits != 8 && i > 0 && i != 4 {
				continue
			}
			s := newShelf(t, bits)
			w, tag := s.write(r)
			payload := w[7:]
			body := payload[:len(payload)-32]
			turned(body, func(_ int, other string) { s.notes(other) })
			turned(payload, func(at int, other string) {
				got, e := s.read(other)
				if e != api.OK {
					return
				}
				accepted++
				if got == show(r) || s.known[other[:len(other)-32]] != tag || s.known[body] != tag {
					t.Errorf("P19.8: byte %d turned: %s is read, with another code", at, got)
				}
			})
			if len(s.book.Forgeries()) != 0 {
				t.Errorf("P19.8: %d forgeries of bodies that were coded", len(s.book.Forgeries()))
			}
			if bits == 256 != s.book.Sound() {
				t.Errorf("P19.8: with %d bits sound: %v", bits, s.book.Sound())
			}
		}
		if bits == 8 && accepted == 0 || bits == 256 && accepted > 0 {
			t.Errorf("P19.8: with %d bits %d turned payloads are accepted", bits, accepted)
		}
	}
}

// P19.8, as a log shows it: a byte turned anywhere in it is told, at the record that it stands in, or the book is sound no more.
func TestTurnedLogs(t *testing.T) {
	for _, bits := range []int{8, 256} {
		s := newShelf(t, bits)
		all := s.frames(few()[:5]...)
		log := joined(all)
		at, end := 0, len(all[0])
		for place := range log {
			if place == end {
				at++
				end += len(all[at])
			}
			for _, x := range []byte{1, 2, 4, 8, 16, 32, 64, 128, 255} {
				b := []byte(log)
				b[place] ^= x
				got, e := s.scan(string(b))
				if e == api.OK && bits == 256 || e != api.OK && len(got) != at {
					t.Errorf("P19.8: byte %d of the log turned by %d: %d entries, %d", place, x, len(got), e)
				}
			}
		}
		if bits == 256 && !s.book.Sound() {
			t.Errorf("P19.8: a forgery with all bits")
		}
	}
}

// No two records have one body, and no bytes are the bodies of two.
func TestBodiesAreTheRecordsOwn(t *testing.T) {
	seen := map[string]string{}
	for _, r := range samples() {
		body := asksBody(t, r)
		if other, is := seen[body]; is && other != show(r) {
			t.Errorf("P19.7: %s and %s have one body", other, show(r))
		}
		seen[body] = show(r)
	}
	if len(seen) < 400 {
		t.Errorf("only %d bodies", len(seen))
	}
}
