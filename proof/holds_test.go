package proof_test

import (
	"fmt"
	"maps"
	"math/rand"
	"slices"
	"strings"
	"testing"

	"cairn/api"
)

func rounds(most int) int {
	if testing.Short() {
		return most / 10
	}
	return most
}

// someList tells strings that Pack takes, of many lengths.
func someList(rnd *rand.Rand) []string {
	l := make([]string, rnd.Intn(8))
	if rnd.Intn(8) == 0 {
		l = make([]string, rnd.Intn(200))
	}
	for i := range l {
		l[i] = someString(rnd, []int{1, 1, 2, 31, 55, 56, 57, 255, 256, 1023, 1024, 1 + rnd.Intn(1024)}[rnd.Intn(12)])
	}
	for len(listOf(l...)) > 131072 {
		l = l[1:]
	}
	return l
}

func someString(rnd *rand.Rand, size int) string {
	b := make([]byte, size)
	rnd.Read(b)
	return string(b)
}

func TestThereAndBack(t *testing.T) {
	rnd := rand.New(rand.NewSource(15))
	seen := map[string]string{}
	for range rounds(600) {
		l := someList(rnd)
		b := packs(t, l...)
		if said := fmt.Sprintf("%x", l); seen[b] != "" && seen[b] != said {
			t.Fatalf("15.4: two lists have the bytes %.40x", b)
		} else {
			seen[b] = said
		}
		if !judges(t, b) {
			t.Fatalf("the model does not take %.40x", b)
		}
	}
}

// Bytes of all kinds of a short alphabet, each as long as one can go through all of them.
func TestAllShortBytes(t *testing.T) {
	proofs := 0
	for i := range 256 * 256 {
		if judges(t, string([]byte{byte(i >> 8), byte(i)})) {
			proofs++
		}
	}
	if proofs != 128 {
		t.Errorf("15.2: %d of all pairs of bytes are proofs, not c1 with each byte below 80", proofs)
	}
	letters := "\x00\x01\x37\x38\x7f\x80\x81\x82\xb7\xb8\xb9\xbf\xc0\xc1\xc2\xc3\xc4\xf7\xf8\xff"
	var all func(b string, more int)
	all = func(b string, more int) {
		judges(t, b)
		for i := 0; more > 0 && i < len(letters); i++ {
			all(b+letters[i:i+1], more-1)
		}
	}
	all("", 2)
	all("\xc2", 2)
	all("\xc3", rounds(30)/10)
	all("\xc4", rounds(30)/10)
	all("\xc3\x81", 2)
	all("\xc4\x82", 3)
	all("\xf8", 3)
}

func TestRandomBytes(t *testing.T) {
	rnd := rand.New(rand.NewSource(16))
	proofs := 0
	for range rounds(60000) {
		b := someString(rnd, rnd.Intn(12))
		if rnd.Intn(2) == 0 { // a list's head that fits
			b = list(b)
		}
		if judges(t, b) {
			proofs++
		}
	}
	if proofs < rounds(600) {
		t.Errorf("among the random bytes are only %d proofs", proofs)
	}
	for range rounds(200) {
		judges(t, list(someString(rnd, rnd.Intn(3000))))
	}
}

// Proofs that are turned here and there, by what is like a head rather than by anything.
func TestTurnedProofs(t *testing.T) {
	rnd := rand.New(rand.NewSource(17))
	proofs := 0
	for range rounds(6000) {
		l := someList(rnd)
		b := []byte(listOf(l[:min(len(l), 8)]...))
		for range 1 + rnd.Intn(3) {
			at := rnd.Intn(len(b))
			if rnd.Intn(2) == 0 {
				at = min(at, rnd.Intn(8))
			}
			switch rnd.Intn(4) {
			case 0:
				b[at] ^= 1 << rnd.Intn(8)
			case 1:
				b[at]++
			case 2:
				b = slices.Insert(b, at, []byte{0, 1, 128, 129, 183, 184, 185, 192, 193, 247, 248}[rnd.Intn(11)])
			default:
				b = slices.Delete(b, at, at+1)
			}
			if len(b) == 0 {
				break
			}
		}
		if judges(t, string(b)) {
			proofs++
		}
	}
	if proofs < rounds(600) {
		t.Errorf("among the turned proofs are only %d proofs", proofs)
	}
}

// someKey tells a key: some are dense, some long, some begin as others do.
func someKey(rnd *rand.Rand, kind int) string {
	switch kind {
	case 0: // few digits, short: beginnings of one another
		b := make([]byte, rnd.Intn(5))
		for i := range b {
			b[i] = []byte{0x00, 0x01, 0x10, 0x11, 0xf1}[rnd.Intn(5)]
		}
		return string(b)
	case 1: // anything
		return someString(rnd, rnd.Intn(33))
	case 2: // the longest ones, with long beginnings in common
		b := []byte(unhex(deep))
		for range rnd.Intn(3) {
			b[rnd.Intn(32)] ^= byte(1 << rnd.Intn(8))
		}
		return string(b)
	}
	return strings.Repeat("\x77", rnd.Intn(33)) // one behind the other
}

func someValue(rnd *rand.Rand) string {
	size := []int{1, 2, 20, 31, 32, 33, 55, 56, 255, 256, 1 + rnd.Intn(256)}[rnd.Intn(11)]
	return strings.Repeat(string([]byte{byte(1 + rnd.Intn(255))}), size)
}

func someMap(rnd *rand.Rand) map[string]string {
	entries := map[string]string{}
	kind := rnd.Intn(5)
	for range rnd.Intn(40) {
		k := kind
		if kind == 4 {
			k = rnd.Intn(4)
		}
		entries[someKey(rnd, k)] = someValue(rnd)
	}
	return entries
}

// around tells a map's keys, those just beside them, and some others, in one order for one map.
func around(rnd *rand.Rand, entries map[string]string) []string {
	out := []string{"", "\x00", "\xff", strings.Repeat("\x00", 32), strings.Repeat("\xff", 32)}
	for _, k := range slices.Sorted(maps.Keys(entries)) {
		out = append(out, k)
		if len(k) > 0 {
			at := rnd.Intn(len(k))
			other := []byte(k)
			other[at] ^= byte(1 << rnd.Intn(8))
			out = append(out, k[:len(k)-1], k[:at], string(other))
		}
		if len(k) < 32 {
			out = append(out, k+string([]byte{byte(rnd.Intn(256))}))
		}
	}
	for kind := range 4 {
		out = append(out, someKey(rnd, kind))
	}
	return out
}

// nearAll tells the same keys for the same map.
func nearAll(entries map[string]string) []string {
	return around(rand.New(rand.NewSource(3)), entries)
}

func TestProofsOverTries(t *testing.T) {
	rnd := rand.New(rand.NewSource(18))
	longest, there, none := 0, 0, 0
	for round := range rounds(80) {
		r := newRig(t, []int{256, 255, 64, 40}[round%4])
		entries := someMap(rnd)
		m := r.plant(entries)
		for _, key := range around(rnd, entries) {
			longest = max(longest, len(r.proves("15.3", m, key)))
			if entries[key] != "" {
				there++
			} else {
				none++
			}
		}
		if !r.book.Sound() {
			t.Fatalf("the book of %d bits is not sound", r.bits)
		}
	}
	if few := rounds(800); longest < 4 || there < few || none < few {
		t.Errorf("these tries are not of many kinds: %d keys that are there, %d that are not, a proof of at most %d strings", there, none, longest)
	}
}

// The keys of a full trie of two nibbles, and of one with values at every other step.
func TestAllKeysOfAByte(t *testing.T) {
	for _, value := range []string{"v", long} {
		all, half := map[string]string{}, map[string]string{"": value}
		for i := range 256 {
			all[string([]byte{byte(i)})] = value
			if i%2 == 0 {
				half[string([]byte{byte(i)})] = value
				half[string([]byte{byte(i), byte(i)})] = value
			}
		}
		for _, entries := range []map[string]string{all, half} {
			r := newRig(t, 256)
			m := r.plant(entries)
			r.proves("15.3", m, "")
			for i := range 256 {
				r.proves("15.3", m, string([]byte{byte(i)}))
				r.proves("15.3", m, string([]byte{byte(i), byte(i)}))
				r.proves("15.3", m, string([]byte{byte(i), 1}))
			}
		}
	}
}

// Two keys' proofs have the same first strings, as far as both go the same way.
func TestKeysThatGoTheSameWay(t *testing.T) {
	rnd := rand.New(rand.NewSource(19))
	far := 0
	for range rounds(60) {
		r := newRig(t, 256)
		entries := someMap(rnd)
		m := r.plant(entries)
		keys := around(rnd, entries)
		for range 60 {
			a, b := keys[rnd.Intn(len(keys))], keys[rnd.Intn(len(keys))]
			one, other := r.proves("15.3", m, a), r.proves("15.3", m, b)
			same := m.shared(a, b)
			if len(one) < len(same) || len(other) < len(same) || !slices.Equal(one[:len(same)], same) || !slices.Equal(other[:len(same)], same) {
				t.Fatalf("15.7: %x and %x go the same way for %d nodes, but their proofs are %.20x and %.20x", a, b, len(same), one, other)
			}
			if len(same) > 2 && (len(one) > len(same) || len(other) > len(same)) {
				far++
			}
			if fmt.Sprintf("%x", a) == fmt.Sprintf("%x", b) && !slices.Equal(one, other) {
				t.Fatalf("R5: one key has two proofs")
			}
		}
	}
	if far < rounds(100) {
		t.Errorf("only %d pairs of keys part behind three nodes", far)
	}
}

// A proof is what its key needs: a source of its strings alone answers the same for that key, and one with a string less does not.
func TestProofsAreEnough(t *testing.T) {
	rnd := rand.New(rand.NewSource(20))
	for range rounds(40) {
		r := newRig(t, 256)
		entries := someMap(rnd)
		m := r.plant(entries)
		for _, key := range around(rnd, entries) {
			l := r.proves("15.3", m, key)
			alone := newRig(t, 256)
			for _, s := range l {
				alone.lay(s)
			}
			if b := alone.proves("15.3", m, key); !slices.Equal(b, l) || len(alone.src.blobs) != len(l) {
				t.Fatalf("15.3: a proof's strings prove %.20x, not %.20x", b, l)
			}
			if len(l) > 0 {
				at := rnd.Intn(len(l))
				delete(alone.src.blobs, hashOf(256, l[at]))
				alone.refused("15.3: no string stands in a proof that is not on the way", m.root, key, api.ErrAbsent, at+1)
			}
		}
	}
}

// someNode tells a node that may be, but need not stand in the trie of any map; what it leads to stands on the shelf, or not.
func someNode(rnd *rand.Rand, r *rig, pool []string) string {
	refOf := func() string {
		if b := pool[rnd.Intn(len(pool))]; len(b) >= 32 || rnd.Intn(8) == 0 {
			return r.byHash(b)
		} else {
			return b
		}
	}
	path := ""
	for range rnd.Intn(4) {
		path += fmt.Sprint(rnd.Intn(2))
	}
	switch rnd.Intn(5) {
	case 0:
		return leaf(path, someValue(rnd))
	case 1, 2:
		next := pool[rnd.Intn(len(pool))]
		if len(next) < 32 && len(next) > 17 { // a branch has seventeen items
			return ext(path+"0", next)
		}
		return ext(path+"1", r.byHash(next))
	}
	value := ""
	if rnd.Intn(3) == 0 {
		value = someValue(rnd)
	}
	return branch(value, kid{0, refOf()}, kid{1, refOf()})
}

// Over any source at all Prove is what find makes of it.
func TestAnySource(t *testing.T) {
	rnd := rand.New(rand.NewSource(21))
	proved, refused, longest := 0, 0, 0
	for round := range rounds(200) {
		r := newRig(t, []int{8, 9, 12, 256}[round%4])
		pool := []string{leaf("", "v"), leaf("0", "w"), leaf("01", "x"), leaf("1", long), branch("", kid{0, sibling}, kid{1, sibling})}
		for range 60 {
			pool = append(pool, someNode(rnd, r, pool[max(0, len(pool)-12):]))
		}
		for _, b := range pool {
			h := r.lay(b)
			switch rnd.Intn(60) {
			case 0:
				delete(r.src.blobs, h)
			case 1:
				r.src.errs[h] = api.Errno(rnd.Intn(330))
			case 2:
				r.src.blobs[h] = pool[rnd.Intn(len(pool))]
			}
		}
		for range 60 {
			b := make([]byte, rnd.Intn(7))
			for i := range b {
				b[i] = []byte{0x00, 0x01, 0x10, 0x11}[rnd.Intn(4)]
			}
			got, l := r.ask("15.5", hashOf(r.bits, pool[rnd.Intn(len(pool))]), string(b))
			if got.e == api.OK {
				proved++
			} else {
				refused++
			}
			longest = max(longest, len(l))
		}
	}
	if few := rounds(1000); proved < few || refused < few || longest < 4 {
		t.Errorf("these sources are not of many kinds: %d proofs, %d refused, at most %d strings", proved, refused, longest)
	}
}
