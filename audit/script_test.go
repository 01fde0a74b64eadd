package audit_test

import (
	"fmt"
	"maps"
	"math/rand"
	"slices"
	"strings"
	"testing"

	"cairn/api"
	"cairn/audit"
)

// someQuill writes a log of chance: records that follow, and now and then one that does not.
func someQuill(rnd *rand.Rand, q *quill, strays int) *quill {
	if rnd.Intn(4) == 0 {
		n := 1 + rnd.Int63n(1<<rnd.Intn(40))
		q.write(api.Record{Kind: api.Committed, Count: n, Seq: 1 + rnd.Int63n(n), Prev: api.Hash{byte(rnd.Intn(3))}, Root: q.root(nil)})
	}
	for range rnd.Intn(8) {
		r := q.opening()
		if rnd.Intn(2) == 0 {
			r = q.batch(someChanges(rnd, 3)...)
		}
		if rnd.Intn(10) < strays {
			r = stray(rnd, r)
		}
		if r.Count > api.MaxCount {
			break
		}
		q.write(r)
	}
	return q
}

// stray tells a record that may be, with one thing in it another one.
func stray(rnd *rand.Rand, r api.Record) api.Record {
	switch rnd.Intn(6) {
	case 0:
		r.Count = max(r.Count+rnd.Int63n(5)-2, r.Seq, 1)
	case 1:
		r.Seq = min(max(r.Seq+rnd.Int63n(3)-1, 1), r.Count)
	case 2:
		r.Prev[rnd.Intn(32)] ^= 1 << rnd.Intn(8)
	case 3:
		r.Root[rnd.Intn(32)] ^= 1 << rnd.Intn(8)
	case 4:
		r.Kind, r.Changes = api.Opened, nil
	default:
		r.Kind, r.Seq = api.Committed, max(r.Seq, 1)
	}
	return r
}

// someLog tells bytes of chance: frames of several quills, in their order or in none, cut, turned, with rubbish.
func someLog(rnd *rand.Rand, own, other *quill) string {
	frames := slices.Clone(own.frames)
	for n := len(frames); n > 0 && rnd.Intn(4) == 0; {
		i, k := rnd.Intn(n), rnd.Intn(n)
		switch rnd.Intn(4) {
		case 0:
			frames[i], frames[k] = frames[k], frames[i]
		case 1:
			frames[i] = frames[k]
		case 2:
			frames = slices.Delete(frames, i, i+1)
			n--
		default:
			if len(other.frames) > 0 {
				frames[i] = other.frames[rnd.Intn(len(other.frames))]
			}
		}
	}
	if n := len(frames); rnd.Intn(4) == 0 {
		frames = frames[rnd.Intn(n+1):]
	}
	log := strings.Join(frames, "")
	switch n := len(log); {
	case n == 0 || rnd.Intn(2) == 0:
	case rnd.Intn(3) == 0:
		log = log[:rnd.Intn(n)]
	case rnd.Intn(2) == 0:
		log = turned(log, rnd.Intn(n), byte(1+rnd.Intn(255)))
	default:
		i := rnd.Intn(n + 1)
		log = log[:i] + []string{"\x00", "\xca", "rubbish", frames[0], log[:rnd.Intn(n)]}[rnd.Intn(5)] + log[i:]
	}
	return log
}

// someRegister tells a register of chance: as a rule one that stands for a record.
func someRegister(rnd *rand.Rand, log string, r *rig, q *quill) api.Register {
	reg := registerOf(wantLog(r.plain, log, api.Register{}).To)
	switch rnd.Intn(8) {
	case 0:
		reg.Count += rnd.Int63n(3) - 1
	case 1:
		reg.Tag[rnd.Intn(32)] ^= 1 << rnd.Intn(8)
	case 2:
		reg = q.reg()
	case 3:
		reg = api.Register{}
	}
	return reg
}

// Logs of all kinds, with books of many and of few bits, against the model.
func TestLogScripts(t *testing.T) {
	for part, bits := range [][2]int{{256, 256}, {256, 8}, {8, 8}, {8, 256}, {12, 9}, {9, 12}} {
		t.Run(fmt.Sprint(bits), func(t *testing.T) {
			t.Parallel()
			rnd := rand.New(rand.NewSource(int64(26100 + part)))
			met := map[api.Errno]int{}
			forged, many := 0, 0
			for range rounds(120) {
				r := newRig(t, bits[0], bits[1])
				own, other := r.quill(), r.stranger(byte(rnd.Intn(2)))
				someQuill(rnd, own, rnd.Intn(2))
				someQuill(rnd, other, 1)
				for range 15 {
					log := someLog(rnd, own, other)
					f := r.log(log, someRegister(rnd, log, r, own))
					met[f.Err]++
					if f.Records > 2 {
						many++
					}
				}
				if len(r.book.Forgeries()) > 0 {
					forged++
				}
			}
			for _, e := range []api.Errno{api.OK, api.ErrMark, api.ErrCut, api.ErrRecord, api.ErrMac, api.ErrChain, api.ErrStale} {
				if met[e] < rounds(20) {
					t.Errorf("%d answers of %d: too few to tell", met[e], e)
				}
			}
			if forged < rounds(10) || many < rounds(300) {
				t.Errorf("%d books have forgeries, %d logs have many records: too few to tell", forged, many)
			}
		})
	}
}

// Records of chance, over maps of chance, with books of many and of few bits, against the model.
func TestReplayScripts(t *testing.T) {
	for part, bits := range []int{256, 8, 9, 12} {
		t.Run(fmt.Sprint(bits), func(t *testing.T) {
			t.Parallel()
			rnd := rand.New(rand.NewSource(int64(26200 + part)))
			met, late := map[api.Errno]int{}, 0
			for range rounds(800) {
				r := newRig(t, bits, 256)
				base := changed(nil, slices.DeleteFunc(someChanges(rnd, 6), func(c api.Change) bool { return c.Gone })...)
				q := r.stranger(0)
				q.records, q.maps, q.heads, q.frames = make([]api.Record, 1), []map[string]string{base}, []api.Head{{Root: q.root(base)}}, []string{""}
				someQuill(rnd, q, rnd.Intn(2))
				records := someRecords(rnd, q.records[1:])
				entries := someEntries(rnd, base)
				_, n, e := r.replay(entries, records)
				met[e]++
				if e != api.OK && n > 0 {
					late++
				}
			}
			for _, e := range []api.Errno{api.OK, api.ErrOrder, api.ErrInput, api.ErrReplay} {
				if met[e] < rounds(10) {
					t.Errorf("%d answers of %d: too few to tell", met[e], e)
				}
			}
			if late < rounds(30) {
				t.Errorf("%d errors behind the first record: too few to tell", late)
			}
		})
	}
}

// someRecords tells records, now and then with something in them that may not be.
func someRecords(rnd *rand.Rand, l []api.Record) []api.Record {
	l = slices.Clone(l)
	bad := badChanges()
	names := slices.Sorted(maps.Keys(bad))
	for n := len(l); n > 0 && rnd.Intn(3) == 0; {
		i := rnd.Intn(n)
		switch rnd.Intn(5) {
		case 0:
			l[i].Kind = rnd.Intn(4)
		case 1:
			place := rnd.Intn(len(l[i].Changes) + 1)
			l[i].Kind, l[i].Changes = api.Committed, slices.Insert(slices.Clone(l[i].Changes), place, bad[names[rnd.Intn(len(names))]])
		case 2:
			l[i].Root = l[rnd.Intn(n)].Root
		case 3:
			l[i] = l[rnd.Intn(n)]
		default:
			l[i].Count, l[i].Seq, l[i].Prev = rnd.Int63()-rnd.Int63(), rnd.Int63()-rnd.Int63(), api.Hash{9}
		}
	}
	return l
}

// someEntries tells a map's entries, now and then such as are no map's.
func someEntries(rnd *rand.Rand, m map[string]string) []api.Entry {
	l := listed(m)
	switch n := len(l); rnd.Intn(10) {
	case 0:
		if n > 0 {
			l = append(l, l[rnd.Intn(n)])
		}
	case 1:
		if n > 0 {
			l[rnd.Intn(n)].Value = nil
		}
	case 2:
		rnd.Shuffle(n, func(i, k int) { l[i], l[k] = l[k], l[i] })
	}
	return l
}

func TestTheScriptsMeetStrays(t *testing.T) {
	rnd := rand.New(rand.NewSource(5))
	r := newRig(t, 256, 256)
	chains := 0
	for range 50 {
		q := someQuill(rnd, r.quill(), 10)
		if f := r.log(q.log(), q.reg()); f.Err == api.ErrChain && f == q.wrong(f.At, api.ErrChain) {
			chains++
		}
	}
	if f := r.log("", api.Register{}); chains < 10 || f != (audit.Finding{At: -1}) {
		t.Errorf("%d logs have a record that does not follow: too few to tell", chains)
	}
}
