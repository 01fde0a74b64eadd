package hstore_test

import (
	"fmt"
	"math/rand"
	"slices"
	"strings"
	"testing"

	"cairn/api"
)

// someBlobs are few enough for calls to meet one another, at all edges of what may be a blob and around them.
func someBlobs() []string {
	out := []string{"", "x", "xy", "xyz", strings.Repeat("l", 1024), strings.Repeat("m", 1023), strings.Repeat("n", 1025)}
	for i := range 6 {
		out = append(out, fmt.Sprintf("blob %d", i))
	}
	return out
}

// someOp tells a call with one of these blobs, or with its hash.
func (r *rig) someOp(rnd *rand.Rand, blobs []string) op {
	s := blobs[rnd.Intn(len(blobs))]
	switch call := rnd.Intn(20); {
	case call < 5:
		return node(r.hash(s))
	case call < 9:
		return fresh(r.hash(s))
	case call < 14:
		return put(s)
	case call < 18:
		return mend(s)
	}
	var hs []api.Hash
	for range rnd.Intn(4) {
		hs = append(hs, r.hash(blobs[rnd.Intn(len(blobs))]))
	}
	return forget(hs...)
}

func someChoice(rnd *rand.Rand) api.Choice {
	return api.Choice{Kind: rnd.Intn(api.Choices), N: rnd.Intn(12), M: rnd.Intn(300)}
}

// meddle does something to the device past the stores, now and then.
func (r *rig) meddle(rnd *rand.Rand, blobs []string, often int) {
	if rnd.Intn(10) < often {
		r.choose(someChoice(rnd), someChoice(rnd))
	}
	if r.d.Down() && rnd.Intn(2) == 0 {
		r.up()
	}
	have := r.d.Media().Blobs
	if often == 0 || r.d.Down() || len(have) == 0 || rnd.Intn(15) > 0 {
		return
	}
	r.choose()
	key := have[rnd.Intn(len(have))].Key
	switch rnd.Intn(3) {
	case 0:
		r.lose(key)
	case 1:
		r.raw(key, blobs[1+rnd.Intn(5)])
	default:
		r.raw(key, "")
	}
}

// wander does so many calls at the rig's stores.
func (r *rig) wander(rnd *rand.Rand, blobs []string, steps, often int, see func(o op, got reply)) {
	r.t.Helper()
	for range steps {
		r.meddle(rnd, blobs, often)
		o := r.someOp(rnd, blobs)
		see(o, r.at(rnd.Intn(len(r.stores)), "P10.3 to P10.8", o))
	}
}

func TestLongWalks(t *testing.T) {
	for seed := range 250 {
		rnd := rand.New(rand.NewSource(int64(seed)))
		r := lay(t, 1+rnd.Intn(12), []int{256, 256, 8, 12}[seed%4], rnd.Intn(4), rnd.Intn(4), 256)
		blobs := someBlobs()
		if seed%4 >= 2 {
			blobs = append(append(blobs, clashing(r.bits, 3, 0)...), clashing(r.bits, 2, 5)...)
		}
		met := make([]int, calls)
		r.wander(rnd, blobs, 120, seed%7, func(o op, _ reply) { met[o.call]++ })
		if slices.Contains(met, 0) {
			t.Fatalf("a walk without one of the calls: %v", met)
		}
	}
}

// Right, or an error: by a book that is sound, whatever the device does, what was put under a hash is what is read.
func TestRightOrAnError(t *testing.T) {
	right, broken := 0, 0
	for seed := range 300 {
		rnd := rand.New(rand.NewSource(int64(seed)))
		bits := []int{256, 8, 10, 16}[seed%4]
		r := lay(t, 1+rnd.Intn(12), bits, rnd.Intn(3), rnd.Intn(3))
		was := map[api.Hash]string{}
		blobs := someBlobs()
		r.wander(rnd, blobs, 150, 1+seed%9, func(o op, got reply) {
			if !r.book.Sound() {
				broken++
				return
			}
			if o.call == callPut && got.e == api.OK {
				was[got.hash] = o.blob
			}
			s, known := was[o.hash]
			if (o.call == callNode || o.call == callFresh) && got.e == api.OK && known {
				right++
				if got.blob != s {
					t.Fatalf("P10.10: %q is read, %q was put, and the book is sound; behind %s", got.blob, s, r.tale())
				}
			}
		})
	}
	if right < 1000 || broken == 0 {
		t.Errorf("P10.10: only %d readings and %d unsound books were seen", right, broken)
	}
}

// Honest: what was put is read by every store, and nothing comes into the quarantine.
func TestHonest(t *testing.T) {
	for seed := range 60 {
		rnd := rand.New(rand.NewSource(int64(seed)))
		blobs := slices.DeleteFunc(someBlobs(), func(s string) bool { return !blob(s) })
		r := lay(t, len(blobs), 256, rnd.Intn(4), rnd.Intn(4))
		r.choose(make([]api.Choice, rnd.Intn(50))...)
		was := map[api.Hash]int{}
		for range 25 {
			s := blobs[rnd.Intn(len(blobs))]
			who := rnd.Intn(len(r.stores))
			if got := r.at(who, "P10.11", put(s)); got != wrote(r.hash(s)) {
				t.Fatalf("P10.11: Put answers %v, behind %s", got, r.tale())
			}
			was[r.hash(s)]++
			switch rnd.Intn(8) {
			case 0:
				r.at(who, "P10.8", forget())
			case 1:
				r.at(who, "P10.8", forget(r.hash(s), r.hash(blobs[0])))
			case 2:
				who = r.add(rnd.Intn(4))
			}
			for _, x := range blobs {
				if _, there := was[r.hash(x)]; there {
					r.read(who, x)
				}
			}
		}
		for _, x := range blobs {
			if _, there := was[r.hash(x)]; there {
				r.readByAll(x)
			}
		}
	}
}

// read holds both readings of a blob's hash against the blob.
func (r *rig) read(who int, s string) {
	r.t.Helper()
	for _, o := range []op{node(r.hash(s)), fresh(r.hash(s))} {
		if got := r.at(who, "P10.11", o); got != told(s) || len(r.stores[who].Quarantine()) != 0 {
			r.t.Fatalf("P10.11: %v answers %v, behind %s", o, got, r.tale())
		}
	}
}

// readByAll reads a blob by all stores, and by one made anew over what the device keeps.
func (r *rig) readByAll(s string) {
	r.t.Helper()
	for who := range r.stores {
		r.read(who, s)
	}
	layOver(r.t, r.d.Media(), r.bits, 3).read(0, s)
}

// How many accesses a call makes is held against the chapter at every call of every test; here each number is met.
func TestHowManyAccesses(t *testing.T) {
	met := map[string]int{}
	for seed := range 60 {
		rnd := rand.New(rand.NewSource(int64(seed)))
		r := lay(t, 1+rnd.Intn(9), 256, rnd.Intn(4))
		last := 0
		for range 100 {
			r.meddle(rnd, someBlobs(), seed%5)
			last = len(r.d.Accesses())
			o := r.someOp(rnd, someBlobs())
			down := r.d.Down()
			r.do("P10.12", o)
			n := len(r.d.Accesses()) - last
			if n > most(o.call) || o.call == callFresh && n != 1 && !down {
				t.Fatalf("P10.12: %v makes %d accesses", o, n)
			}
			if !down {
				met[fmt.Sprint(o.call, n)]++
			}
		}
	}
	for _, w := range []string{"0 0", "0 1", "1 1", "2 0", "2 1", "2 2", "3 0", "3 1", "4 0"} {
		if met[w] == 0 {
			t.Errorf("P10.12: no call with its number of accesses as in %q: %v", w, met)
		}
	}
	if len(met) != 9 {
		t.Errorf("P10.12: %v", met)
	}
}
