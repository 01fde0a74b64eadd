package diff_test

import (
	"fmt"
	"maps"
	"slices"
	"testing"

	"cairn/api"
)

// many is a map of the keys of so many numbers.
func many(from, to int, value string) map[string]string {
	out := map[string]string{}
	for i := from; i < to; i++ {
		out[number(i)] = value
	}
	return out
}

func number(i int) string { return string([]byte{byte(i >> 8), byte(i)}) }

func joined(all ...map[string]string) map[string]string {
	out := map[string]string{}
	for _, m := range all {
		maps.Copy(out, m)
	}
	return out
}

func TestLimit(t *testing.T) {
	const most = 4096
	for what, c := range map[string]struct {
		old, now map[string]string
		count    int
	}{
		"all of the new one":              {nil, many(0, most, "v"), most},
		"one more":                        {nil, many(0, most+1, "v"), most + 1},
		"one less":                        {nil, many(0, most-1, "v"), most - 1},
		"many more":                       {nil, many(0, 9000, "v"), 9000},
		"other values":                    {many(0, most, "v"), many(0, most, "w"), most},
		"other values, and one more":      {many(0, most+1, "v"), many(0, most+1, "w"), most + 1},
		"other keys":                      {many(0, most/2, "v"), many(most/2, most, "v"), most},
		"other keys, and one more":        {many(0, most/2, "v"), many(most/2, most+1, "v"), most + 1},
		"much is shared":                  {many(0, 9000, "v"), joined(many(0, 2000, "v"), many(2000, 2000+most, "w"), many(2000+most, 9000, "v")), most},
		"much is shared, one more":        {many(0, 9000, "v"), joined(many(0, 2000, "v"), many(2000, 2001+most, "w"), many(2001+most, 9000, "v")), most + 1},
		"the empty key ahead of all":      {map[string]string{"": "e"}, many(0, most-1, "v"), most},
		"the empty key and one too many":  {map[string]string{"": "e"}, many(0, most, "v"), most + 1},
		"some gone, some new, some other": {many(0, 3000, "v"), joined(many(1000, 2000, "v"), many(2000, 3000, "w"), many(3000, 5096, "u")), most},
	} {
		t.Run(what, func(t *testing.T) {
			t.Parallel()
			r := newRig(t, 256)
			old, now := r.plant(c.old), r.plant(c.now)
			ds, e := r.both("24.1: "+what, old, now)
			if want := differences(c.old, c.now); len(want) != c.count {
				t.Fatalf("these have %d differences", len(want))
			} else if c.count > most {
				want = nil
				if e != api.ErrFull || len(ds) != 0 {
					t.Errorf("24.1: %d differences: %d, %d", c.count, len(ds), e)
				}
			} else if !slices.Equal(ds, want) || e != api.OK {
				t.Errorf("24.1: %d differences: %d, %d", c.count, len(ds), e)
			}
		})
	}
}

// Where a walk with too many ends: the node with the one more is read, and nothing behind it; an error ahead of it is the answer, one
// behind it is not.
func TestWhereTheLimitEndsAWalk(t *testing.T) {
	const most = 4096
	r := newRig(t, 256)
	m := many(0, most+300, "")
	for k := range m {
		m[k] = fmt.Sprintf("%s %x", long, k) // each leaf by a hash of its own
	}
	now := r.plant(m)
	order := r.alone(r.empty(), now)
	place := func(i int) int { // how many are read down to a key's leaf
		return slices.Index(order, hashOf(256, leaf("", m[number(i)]))) + 1
	}
	last := place(most)
	r.refused("24.1: the one more", r.empty(), now, api.ErrFull, last)
	if !slices.Equal(r.src.asked, order[:last]) {
		t.Errorf("24.1: other nodes are read")
	}
	for _, c := range []struct {
		i     int
		want  api.Errno
		asked int
	}{{most + 1, api.ErrFull, last}, {most + 299, api.ErrFull, last}, {most, api.ErrDown, last}, {most - 1, api.ErrDown, place(most - 1)}, {0, api.ErrDown, place(0)}} {
		h := hashOf(256, leaf("", m[number(c.i)]))
		r.src.errs[h] = api.ErrDown
		r.refused(fmt.Sprintf("24.1: the leaf %d is lost", c.i), r.empty(), now, c.want, c.asked)
		r.refused(fmt.Sprintf("24.1: the leaf %d is lost, turned about", c.i), now, r.empty(), c.want, c.asked)
		delete(r.src.errs, h)
	}
	// just as many as are told, and something behind them
	just := r.plant(joined(many(0, most, "v"), many(0xf000, 0xf010, long)))
	beside := r.plant(many(0xf000, 0xf010, long))
	if ds, e := r.both("24.1: just as many", just, beside); len(ds) != most || e != api.OK {
		t.Errorf("24.1: %d, %d", len(ds), e)
	}
	lost := r.plant(joined(many(0, most, "v"), map[string]string{"\xf0\x00": "a value that is lost, that of a leaf by its hash"}))
	delete(r.src.blobs, hashOf(256, leaf("000", "a value that is lost, that of a leaf by its hash")))
	if ds, e := r.both("24.1: just as many, and a lost one behind", lost, r.empty()); len(ds) != 0 || e != api.ErrAbsent {
		t.Errorf("24.1: %d, %d", len(ds), e)
	}
}

// The one more is a branch's value: none of its kids is read.
func TestTheOneMoreIsABranch(t *testing.T) {
	const most = 4096
	r := newRig(t, 256)
	m := joined(many(0, most, "v"), map[string]string{"\xf0": "one more", "\xf0\x01": long, "\xf0\x11": long + "2"})
	now := r.plant(m)
	for _, h := range []api.Hash{hashOf(256, leaf("1", long)), hashOf(256, leaf("1", long+"2"))} {
		if _, there := r.src.blobs[h]; !there {
			t.Fatal("a leaf does not stand where it should")
		}
		delete(r.src.blobs, h)
	}
	if ds, e := r.both("24.1: the one more is a branch's value", r.empty(), now); len(ds) != 0 || e != api.ErrFull {
		t.Errorf("24.1: %d, %d", len(ds), e)
	}
	shared := joined(many(0, 1, "v"), map[string]string{"\xf0": "one more"})
	if ds, e := r.both("24.1: it is the same on both sides", r.plant(shared), now); len(ds) != 0 || e != api.ErrAbsent {
		t.Errorf("24.1: %d, %d", len(ds), e)
	}
}
