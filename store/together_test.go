package store_test

import (
	"fmt"
	"slices"
	"strings"
	"sync"
	"testing"

	"cairn/api"
	"cairn/digest"
	"cairn/media"
	"cairn/shape"
	"cairn/store"
	"cairn/verify"
)

// one is a store at a device of its own, without a model beside it: for goroutines.
func one(t *testing.T, cache int) (*store.Store, *media.Device, *digest.Book) {
	t.Helper()
	d, e := media.New(2000, api.MaxRoom)
	if e != api.OK {
		t.Fatal(e)
	}
	book := newBook(t, 256, 256)
	s, e := store.Open(d, book, cache)
	if e != api.OK {
		t.Fatal(e)
	}
	return s, d, book
}

// together runs n goroutines that begin at one time, and waits for all.
func together(n int, do func(i int)) {
	var all sync.WaitGroup
	begin := make(chan struct{})
	for i := range n {
		all.Go(func() {
			<-begin
			do(i)
		})
	}
	close(begin)
	all.Wait()
}

// Changes that come from several goroutines at one time: each is laid whole, or refused as the batch is full.
func TestChangesAtOneTime(t *testing.T) {
	for range rounds(100) {
		s, _, _ := one(t, 4)
		ok := make([]int, 8)
		together(8, func(i int) {
			for j := range 20 {
				key := []byte{byte(i), byte(j)}
				switch e := s.Put(key, key); e {
				case api.OK:
					ok[i]++
				case api.ErrBatch:
				default:
					t.Errorf("23.7: %d", e)
				}
				if n := s.Report().Staged; n < 1 || n > api.MaxBatch {
					t.Errorf("23.12: %d changes", n)
				}
			}
		})
		laid := 0
		for _, n := range ok {
			laid += n
		}
		if n := s.Report().Staged; n != api.MaxBatch || laid != n {
			t.Fatalf("23.12: %d changes are staged, %d were laid", n, laid)
		}
		if _, e := s.Commit(); e != api.OK {
			t.Fatalf("23.8: %d", e)
		}
		l, e := s.History()
		if e != api.OK || len(l) != 2 || len(l[1].Changes) != api.MaxBatch {
			t.Fatalf("23.12: %d records, %d", len(l), e)
		}
		seen := map[string]bool{}
		for _, c := range l[1].Changes {
			if string(c.Key) != string(c.Value) || seen[string(c.Key)] {
				t.Errorf("23.12: a change is %x %x", c.Key, c.Value)
			}
			seen[string(c.Key)] = true
		}
	}
}

// Commits and reads from several goroutines at one time: all are done, one behind the other, in some order. What the records say, done
// one behind the other, is what each commit has answered, and what all reads see.
func TestCallsAtOneTime(t *testing.T) {
	for round := range rounds(40) {
		s, d, book := one(t, []int{0, 3, 256}[round%3])
		roots := make([][]api.Hash, 8)
		together(8, func(i int) {
			for j := range 12 {
				key := []byte{byte(i), byte(j % 5)}
				if e := s.Put(key, fmt.Appendf(nil, "%s%d %d", long, i, j)); e != api.OK {
					t.Errorf("23.7: %d", e)
				}
				root, e := s.Commit()
				if e != api.OK {
					t.Errorf("23.8: %d", e)
				}
				roots[i] = append(roots[i], root)
				value, found, e := s.Get(key) // this goroutine alone changes it, and a commit behind its put is done
				if e != api.OK || !found || string(value) != fmt.Sprintf("%s%d %d", long, i, j) {
					t.Errorf("23.12: Get answers %q, %v, %d", value, found, e)
				}
				if _, e := s.Scrub(3); e != api.OK {
					t.Errorf("23.10: %d", e)
				}
				if x := s.Report(); x.Failed || len(x.Quarantine) > 0 {
					t.Errorf("23.11: %+v", x)
				}
			}
		})
		l, e := s.History()
		if e != api.OK || len(l) != 8*12+1 {
			t.Fatalf("23.12: %d records, %d", len(l), e)
		}
		var entries []api.Entry
		var want []api.Hash
		for i, r := range l[1:] {
			if r.Seq != int64(i)+1 || r.Count != int64(i)+2 {
				t.Errorf("23.12: record %d is the batch %d", i, r.Seq)
			}
			entries, _ = shape.Apply(entries, r.Changes)
			root, _ := shape.Root(book, entries)
			if r.Root != root {
				t.Fatalf("23.12: the root of batch %d", r.Seq)
			}
			want = append(want, root)
		}
		got := slices.Concat(roots...)
		slices.SortFunc(got, func(a, b api.Hash) int { return strings.Compare(string(a[:]), string(b[:])) })
		slices.SortFunc(want, func(a, b api.Hash) int { return strings.Compare(string(a[:]), string(b[:])) })
		if !slices.Equal(got, want) {
			t.Errorf("23.12: the roots that were answered are not those of the records")
		}
		whole(t, d.Accesses())
	}
}

// whole looks that no access of another call lies between an append and its register, or between a look and the reading of the log.
func whole(t *testing.T, accesses []api.Access) {
	t.Helper()
	var all []string
	for _, a := range accesses[4:] { // behind the opening
		all = append(all, names[a.Kind])
	}
	for i, name := range all {
		if name == "setreg" && all[i-1] != "append" || name == "append" && all[i+1] != "setreg" {
			t.Fatalf("23.12: access %d is %s behind %s", i, name, all[i-1])
		}
		if name == "read" && all[i-1] != "reg" {
			t.Fatalf("23.12: access %d is %s behind %s", i, name, all[i-1])
		}
	}
}

// Every kind of call from several goroutines at one time; the device goes down amid them: then each call answers ErrDown once in all, and
// ErrFailed from then on, and an opening shows a map that a commit has made.
func TestCrashAtOneTime(t *testing.T) {
	for round := range rounds(60) {
		s, d, book := one(t, 8)
		for i := range 4 {
			s.Put([]byte{byte(i)}, []byte(long))
		}
		if _, e := s.Commit(); e != api.OK {
			t.Fatal(e)
		}
		if e := d.Choose(honest(20+7*round, choice(api.Crash, 0))...); e != api.OK {
			t.Fatal(e)
		}
		calls := []func() api.Errno{
			func() api.Errno { _, _, e := s.Get([]byte{1}); return e },
			func() api.Errno { _, _, e := s.Scan(all, 9); return e },
			func() api.Errno {
				p, e := s.Prove([]byte{2})
				if e == api.OK && len(p) < 40 {
					t.Errorf("23.6: %x", p)
				}
				return e
			},
			func() api.Errno { _, e := s.ProveSpan(all); return e },
			func() api.Errno { return s.Put([]byte{9}, []byte(long)) },
			func() api.Errno { return s.Abort() },
			func() api.Errno { _, e := s.Commit(); return e },
			func() api.Errno { _, e := s.Root(); return e },
			func() api.Errno { _, e := s.History(); return e },
			func() api.Errno { _, e := s.Scrub(2); return e },
			func() api.Errno { _, e := s.Sweep(); return e },
			func() api.Errno { return s.Delete([]byte{9}) },
		}
		downs := make([]int, len(calls))
		together(len(calls), func(i int) {
			for range 60 {
				switch e := calls[i](); e {
				case api.OK, api.ErrFailed, api.ErrBatch:
				case api.ErrDown:
					downs[i]++
				default:
					t.Errorf("23.12: call %d answers %d", i, e)
				}
				s.Report()
			}
		})
		fell := 0
		for _, n := range downs {
			fell += n
		}
		if fell != 1 || !s.Report().Failed {
			t.Fatalf("23.12: ErrDown was answered %d times", fell)
		}
		d.Up()
		x, e := store.Open(d, book, 8)
		if e != api.OK {
			t.Fatalf("W3: %d", e)
		}
		if value, found, e := x.Get([]byte{1}); e != api.OK || !found || string(value) != long {
			t.Errorf("W3: %q, %d", value, e)
		}
	}
}

// Stores at devices of their own may work with one book at one time.
func TestOneBookAtOneTime(t *testing.T) {
	book := newBook(t, 256, 256)
	together(8, func(i int) {
		d, _ := media.New(64, 60000)
		s, e := store.Open(d, book, 3)
		if e != api.OK {
			t.Error(e)
			return
		}
		for j := range 30 {
			s.Put([]byte{byte(j % 7)}, fmt.Appendf(nil, "%s%d", long, j))
			root, e := s.Commit()
			p, f := s.Prove([]byte{byte(j % 7)})
			v, found, g := verify.Verify(book, root, []byte{byte(j % 7)}, p)
			if e != api.OK || f != api.OK || g != api.OK || !found || string(v) != fmt.Sprintf("%s%d", long, j) {
				t.Errorf("R5: %d, %d, %d, %q", e, f, g, v)
			}
		}
	})
	if !book.Sound() {
		t.Error("R5: the book is not sound")
	}
}
