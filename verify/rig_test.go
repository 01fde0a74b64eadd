package verify_test

import (
	"fmt"
	"maps"
	"math/rand"
	"slices"
	"strings"
	"testing"

	"cairn/api"
	"cairn/digest"
	"cairn/find"
	"cairn/proof"
	"cairn/verify"
)

func rounds(most int) int {
	if testing.Short() {
		return most / 10
	}
	return most
}

// fill writes one byte all over bytes and their spare room.
func fill(b []byte, x byte) {
	b = b[:cap(b)]
	for i := range b {
		b[i] = x
	}
}

// isAll tells whether bytes and their spare room are one byte all over.
func isAll(b []byte, x byte) bool {
	return !slices.ContainsFunc(b[:cap(b)], func(y byte) bool { return y != x })
}

// roomy tells a copy of bytes whose spare room is filled with marks.
func roomy(s string) []byte {
	return append([]byte(s), 7, 201, 0, 32, 255, 16, 9, 204)[:len(s)]
}

// sized tells a string of so many bytes.
func sized(n int) string {
	b := make([]byte, n)
	for i := range b {
		b[i] = byte(7*i + n)
	}
	return string(b)
}

func newBook(t *testing.T, bits int) *digest.Book {
	t.Helper()
	book, e := digest.New(bits, 256, make([]byte, 32))
	if e != api.OK {
		t.Fatalf("a book of %d bits: %d", bits, e)
	}
	return book
}

// rig is a book with nodes that are shown.
type rig struct {
	t    *testing.T
	bits int
	book *digest.Book
}

func newRig(t *testing.T, bits int) *rig {
	t.Helper()
	return &rig{t: t, bits: bits, book: newBook(t, bits)}
}

func (r *rig) hash(encoding string) api.Hash { return hashOf(r.bits, encoding) }
func (r *rig) byHash(encoding string) string { return refTo(r.bits, encoding) }
func (r *rig) tell(what, key, b string) string {
	return fmt.Sprintf("%s: %x with %.60x (%d bytes)", what, key, b, len(b))
}

// verify asks Verify; it looks whether what was handed in is as it was, and spoils it, so that whoever has kept it loses it.
func (r *rig) verify(root api.Hash, key, b string) verdict {
	r.t.Helper()
	inKey, inProof := roomy(key), roomy(b)
	wasKey, wasProof := string(inKey[:cap(inKey)]), string(inProof[:cap(inProof)])
	value, found, e := verify.Verify(r.book, root, inKey, inProof)
	if string(inKey[:cap(inKey)]) != wasKey || string(inProof[:cap(inProof)]) != wasProof {
		r.t.Errorf("R3: Verify has changed what it was handed")
	}
	out := verdict{string(value), found, e}
	fill(inKey, 0x66)
	fill(inProof, 0x66)
	if string(value) != out.value {
		r.t.Errorf("R3: what Verify answers shares memory with what it was handed")
	}
	fill(value, 0x99)
	if !isAll(inKey, 0x66) || !isAll(inProof, 0x66) {
		r.t.Errorf("R3: what Verify answers shares its spare room with what it was handed")
	}
	return out
}

// teller is a source that tells strings one behind the other, whatever it is asked for: find over it goes the way that 16.3 says.
type teller struct{ left [][]byte }

func (s *teller) Node(api.Hash) ([]byte, api.Errno) {
	if len(s.left) == 0 {
		return nil, api.ErrAbsent
	}
	b := s.left[0]
	s.left = s.left[1:]
	return b, api.OK
}

// search tells what find makes of a proof's strings.
func (r *rig) search(root api.Hash, key, b string) verdict {
	l, e := proof.Unpack([]byte(b))
	src := &teller{l}
	value, found, f := find.Get(src, r.book, root, []byte(key))
	switch {
	case f == api.ErrInput:
		return verdict{e: f}
	case e != api.OK || f != api.OK || len(src.left) > 0:
		return proofless
	}
	return verdict{string(value), found, api.OK}
}

// ask asks Verify twice, and All, and holds the answers against the model and against find.
func (r *rig) ask(promise string, root api.Hash, key, b string) verdict {
	r.t.Helper()
	want := judge(r.bits, root, key, b)
	if other := r.search(root, key, b); other != want {
		r.t.Fatalf("%s: by find %v, by the model %v", r.tell(promise, key, b), other, want)
	}
	for range 2 {
		if got := r.verify(root, key, b); got != want {
			r.t.Fatalf("%s: Verify answers %v, not %v", r.tell(promise, key, b), got, want)
		}
	}
	if l := verify.All(r.book, root, verify.Claim{Key: []byte(key), Proof: []byte(b)}); len(l) != 1 || verdictOf(l[0]) != want {
		r.t.Fatalf("%s, 16.4: All answers %v, not %v", r.tell(promise, key, b), l, want)
	}
	return want
}

func verdictOf(a verify.Answer) verdict { return verdict{string(a.Value), a.Found, a.Err} }

// proves holds strings against a root and a key that should have this value.
func (r *rig) proves(promise string, root api.Hash, key, value string, l ...string) {
	r.t.Helper()
	if got := r.ask(promise, root, key, listOf(l...)); got != (verdict{value, true, api.OK}) {
		r.t.Errorf("%s: %v, not %.20q", r.tell(promise, key, listOf(l...)), got, value)
	}
}

// provesNone holds strings against a root and a key that should have nothing.
func (r *rig) provesNone(promise string, root api.Hash, key string, l ...string) {
	r.t.Helper()
	if got := r.ask(promise, root, key, listOf(l...)); got != (verdict{}) {
		r.t.Errorf("%s: %v, not nothing", r.tell(promise, key, listOf(l...)), got)
	}
}

// refuses holds strings against a root and a key for which they should prove nothing.
func (r *rig) refuses(promise string, root api.Hash, key string, l ...string) {
	r.t.Helper()
	r.refusesBytes(promise, root, key, listOf(l...))
}

// refusesBytes holds bytes against a root and a key for which they should prove nothing.
func (r *rig) refusesBytes(promise string, root api.Hash, key, b string) {
	r.t.Helper()
	if got := r.ask(promise, root, key, b); got != proofless {
		r.t.Errorf("%s: %v, not error 160", r.tell(promise, key, b), got)
	}
}

// shelf is a source of strings by their hashes, which keeps what it has told.
type shelf struct {
	blobs map[api.Hash]string
	told  []string
}

func (s *shelf) Node(h api.Hash) ([]byte, api.Errno) {
	b, there := s.blobs[h]
	if !there {
		return nil, api.ErrAbsent
	}
	s.told = append(s.told, b)
	return []byte(b), api.OK
}

// shelve tells a source of a trie's nodes.
func (m *trie) shelve() *shelf {
	s := &shelf{blobs: map[api.Hash]string{}}
	for _, x := range m.spots {
		s.blobs[hashOf(m.bits, x.encoding)] = x.encoding
	}
	return s
}

// grove is a map whose trie has whole nodes and nodes by their hashes.
func grove() map[string]string {
	return map[string]string{"": "e", "\x12": "a", "\x12\x34": long, "\x12\x35": "b", "\x12\x35\x67": long + "!", "\x77": "seven", "\x78": "eight", "\x79\x99": "n", unhex(deep[:64]): long, unhex(deep[:62]): "up"}
}

func someString(rnd *rand.Rand, size int) string {
	b := make([]byte, size)
	rnd.Read(b)
	return string(b)
}

// someKey tells a key: some are dense, some long, some begin as others do.
func someKey(rnd *rand.Rand, kind int) string {
	switch kind {
	case 0: // few digits, short: beginnings of one another
		b := make([]byte, rnd.Intn(5))
		for i := range b {
			b[i] = []byte{0x00, 0x01, 0x10, 0x11, 0xf1}[rnd.Intn(5)]
		}
		return string(b)
	case 1: // anything
		return someString(rnd, rnd.Intn(33))
	case 2: // the longest ones, with long beginnings in common
		b := []byte(unhex(deep[:64]))
		for range rnd.Intn(3) {
			b[rnd.Intn(32)] ^= byte(1 << rnd.Intn(8))
		}
		return string(b)
	}
	return strings.Repeat("\x77", rnd.Intn(33)) // one behind the other
}

func someValue(rnd *rand.Rand) string {
	size := []int{1, 2, 20, 31, 32, 33, 55, 56, 255, 256, 1 + rnd.Intn(256)}[rnd.Intn(11)]
	return strings.Repeat(string([]byte{byte(1 + rnd.Intn(255))}), size)
}

func someMap(rnd *rand.Rand) map[string]string {
	entries := map[string]string{}
	kind := rnd.Intn(5)
	for range rnd.Intn(40) {
		k := kind
		if kind == 4 {
			k = rnd.Intn(4)
		}
		entries[someKey(rnd, k)] = someValue(rnd)
	}
	return entries
}

// around tells a map's keys, those just beside them, and some others, in one order for one map.
func around(rnd *rand.Rand, entries map[string]string) []string {
	out := []string{"", "\x00", "\xff", strings.Repeat("\x00", 32), strings.Repeat("\xff", 32)}
	for _, k := range slices.Sorted(maps.Keys(entries)) {
		out = append(out, k)
		if len(k) > 0 {
			at := rnd.Intn(len(k))
			other := []byte(k)
			other[at] ^= byte(1 << rnd.Intn(8))
			out = append(out, k[:len(k)-1], k[:at], string(other))
		}
		if len(k) < 32 {
			out = append(out, k+string([]byte{byte(rnd.Intn(256))}))
		}
	}
	for kind := range 4 {
		out = append(out, someKey(rnd, kind))
	}
	return out
}

// nearAll tells the same keys for the same map.
func nearAll(entries map[string]string) []string {
	return around(rand.New(rand.NewSource(3)), entries)
}
