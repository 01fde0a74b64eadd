package digest_test

import (
	"bytes"
	"crypto/hmac"
	"crypto/sha256"
	"math"
	"math/rand"
	"slices"
	"strconv"
	"sync"
	"testing"

	"cairn/api"
	"cairn/digest"
)

// secret is the one that the tests' books have.
var secret = scattered(32, 4)

// scattered tells so many bytes without a pattern, the same at every run.
func scattered(n int, seed int64) []byte {
	b := make([]byte, n)
	rand.New(rand.NewSource(seed)).Read(b)
	return b
}

// book tells a new book of the tests' secret.
func book(t *testing.T, bits, codeBits int) *digest.Book {
	t.Helper()
	b, e := digest.New(bits, codeBits, secret)
	if b == nil || e != api.OK {
		t.Fatalf("P4.1: New(%d, %d) = %v, %d", bits, codeBits, b, e)
	}
	return b
}

// first tells the first n bits of 32 bytes, bit by bit, as P4.2 counts them.
func first(h api.Hash, n int) api.Hash {
	var out api.Hash
	for i := range n {
		one := byte(128) >> (i % 8)
		out[i/8] |= h[i/8] & one
	}
	return out
}

// wantHash tells the published hash of a string, cut.
func wantHash(s string, bits int) api.Hash { return first(sha256.Sum256([]byte(s)), bits) }

// wantCode tells the published code of a body, cut.
func wantCode(s string, secret []byte, bits int) api.Hash {
	h := hmac.New(sha256.New, secret)
	h.Write([]byte(s))
	return first(api.Hash(h.Sum(nil)), bits)
}

// wantPairs tells the pairs of P4.6 by a look at each string with each other one.
func wantPairs(all []string, of func(string) api.Hash) []api.Pair {
	all = wantDistinct(all)
	hashes := make([]api.Hash, len(all))
	for i, s := range all {
		hashes[i] = of(s)
	}
	var out []api.Pair
	for i, a := range all {
		if slices.Contains(hashes[:i], hashes[i]) {
			continue
		}
		for k := i + 1; k < len(all); k++ {
			if hashes[i] == hashes[k] {
				out = append(out, api.Pair{A: []byte(a), B: []byte(all[k])})
			}
		}
	}
	return out
}

// wantDistinct tells the different ones of a list, rising.
func wantDistinct(all []string) []string {
	return slices.Compact(slices.Sorted(slices.Values(all)))
}

func samePairs(x, y []api.Pair) bool {
	return slices.EqualFunc(x, y, func(a, b api.Pair) bool { return bytes.Equal(a.A, b.A) && bytes.Equal(a.B, b.B) })
}

func sameForgeries(x, y []api.Forgery) bool {
	return slices.EqualFunc(x, y, func(a, b api.Forgery) bool { return bytes.Equal(a.Body, b.Body) && a.Code == b.Code })
}

// several tells strings among which, at eight bits, many meet: the empty one, beginnings of others, high bytes.
func several(n int) []string {
	out := []string{"", "\x00", "\x00\x00", "a", "ab", "abc", "abcd", "\xff", "\xff\xff", "\x7f", "\x80"}
	for i := range n {
		s := strconv.Itoa(i)
		out = append(out, s, "x"+s, s+"\x00", string(scattered(i%90, int64(i))))
	}
	return out
}

// mixed tells a list in another order, the same at every run.
func mixed(all []string, seed int64) []string {
	out := slices.Clone(all)
	rand.New(rand.NewSource(seed)).Shuffle(len(out), func(i, k int) { out[i], out[k] = out[k], out[i] })
	return out
}

func checkLen(t *testing.T, b *digest.Book, hashed, coded int, when string) {
	t.Helper()
	if h, c := b.Len(); h != hashed || c != coded {
		t.Errorf("P4.6: Len() = %d, %d %s, not %d, %d", h, c, when, hashed, coded)
	}
}

func TestNew(t *testing.T) {
	numbers := []int{math.MinInt, -257, -256, -8, -1, 0, 1, 7, 8, 9, 12, 255, 256, 257, 258, 264, 512, math.MaxInt}
	may := func(n int) bool { return n >= 8 && n <= 256 }
	for _, bits := range numbers {
		for _, codeBits := range numbers {
			for _, n := range []int{0, 1, 31, 32, 33, 64} {
				want := api.OK
				if n != 32 {
					want = api.ErrKey
				}
				if !may(bits) || !may(codeBits) {
					want = api.ErrBits
				}
				b, e := digest.New(bits, codeBits, make([]byte, n))
				if e != want || (b == nil) != (e != api.OK) {
					t.Errorf("P4.1: New(%d, %d, %d bytes) = %v, %d, not %d", bits, codeBits, n, b, e, want)
				}
			}
		}
	}
	for n := 8; n <= 256; n++ {
		book(t, n, 264-n)
	}
}

func TestNewWithoutSecret(t *testing.T) {
	if b, e := digest.New(8, 256, nil); b != nil || e != api.ErrKey {
		t.Errorf("P4.1: New(8, 256, nil) = %v, %d", b, e)
	}
	if b, e := digest.New(7, 256, nil); b != nil || e != api.ErrBits {
		t.Errorf("P4.1: New(7, 256, nil) = %v, %d", b, e)
	}
}

func TestNewHasNothing(t *testing.T) {
	b := book(t, 8, 8)
	checkLen(t, b, 0, 0, "of a new book")
	if len(b.Clashes()) != 0 || len(b.Twins()) != 0 || len(b.Forgeries()) != 0 || !b.Sound() {
		t.Error("P4.1, P4.6: a new book tells of something, or is not sound")
	}
}

func TestExamples(t *testing.T) {
	for _, c := range []struct {
		bits int
		head []byte
	}{{256, []byte{0xba, 0x78, 0x16, 0xbf}}, {12, []byte{0xba, 0x70, 0, 0}}, {8, []byte{0xba, 0, 0, 0}}} {
		b := book(t, c.bits, 256)
		h := b.Hash([]byte("abc"))
		if !bytes.Equal(h[:4], c.head) {
			t.Errorf("P4.3: the hash of abc by %d bits begins with %x, not with %x", c.bits, h[:4], c.head)
		}
		if c.bits < 32 && h != first(h, c.bits) {
			t.Errorf("P4.2: the hash of abc by %d bits is %x", c.bits, h)
		}
		checkLen(t, b, 1, 0, "behind one string")
		b.Hash([]byte("abc"))
		checkLen(t, b, 1, 0, "behind one string twice")
	}
}

func TestCutAtEveryNumberOfBits(t *testing.T) {
	for n := 8; n <= 256; n++ {
		hashes, codes := book(t, n, 256), book(t, 256, n)
		for _, s := range []string{"", "abc", "\xff\x00", string(scattered(100, 1)), string(scattered(64, 2))} {
			if got, want := hashes.Hash([]byte(s)), wantHash(s, n); got != want {
				t.Errorf("P4.2, P4.3: by %d bits the hash of %q is %x, not %x", n, s, got, want)
			}
			if got, want := hashes.Code([]byte(s)), wantCode(s, secret, 256); got != want {
				t.Errorf("P4.4: by %d bits of hashes the code of %q is %x, not %x", n, s, got, want)
			}
			if got, want := codes.Code([]byte(s)), wantCode(s, secret, n); got != want {
				t.Errorf("P4.2, P4.4: by %d bits the code of %q is %x, not %x", n, s, got, want)
			}
			if got, want := codes.Hash([]byte(s)), wantHash(s, 256); got != want {
				t.Errorf("P4.3: by %d bits of codes the hash of %q is %x, not %x", n, s, got, want)
			}
		}
	}
}

func TestLongStrings(t *testing.T) {
	b := book(t, 256, 256)
	for _, n := range []int{55, 56, 63, 64, 65, 1000, 16384} {
		s := string(scattered(n, int64(n)))
		if b.Hash([]byte(s)) != wantHash(s, 256) || b.Code([]byte(s)) != wantCode(s, secret, 256) {
			t.Errorf("P4.3, P4.4: of %d bytes", n)
		}
	}
}

func TestClashesAndTwins(t *testing.T) {
	all := several(120)
	hashOf := func(s string) api.Hash { return wantHash(s, 8) }
	codeOf := func(s string) api.Hash { return wantCode(s, secret, 8) }
	clashes, twins := wantPairs(all, hashOf), wantPairs(all, codeOf)
	if len(clashes) < 100 || len(twins) < 100 {
		t.Fatalf("%d clashes and %d twins are too few to look at", len(clashes), len(twins))
	}
	for seed := range int64(5) {
		b := book(t, 8, 8)
		for _, s := range mixed(all, seed) {
			b.Hash([]byte(s))
		}
		for _, s := range mixed(all, seed+10) {
			b.Code([]byte(s))
		}
		if !samePairs(b.Clashes(), clashes) {
			t.Errorf("P4.3, P4.6: clashes in order %d", seed)
		}
		if !samePairs(b.Twins(), twins) {
			t.Errorf("P4.4, P4.6: twins in order %d", seed)
		}
		if b.Sound() {
			t.Error("P4.6: sound, with clashes and twins")
		}
		if !samePairs(b.Clashes(), clashes) || !samePairs(b.Twins(), twins) {
			t.Error("P4.6: the pairs change as they are told")
		}
	}
}

func TestPairsAtEachStep(t *testing.T) {
	for _, bits := range []int{8, 9, 12} {
		b := book(t, bits, bits)
		all := mixed(several(20), 3)
		for i, s := range all {
			b.Hash([]byte(s))
			b.Code([]byte(s))
			clashes := wantPairs(all[:i+1], func(s string) api.Hash { return wantHash(s, bits) })
			twins := wantPairs(all[:i+1], func(s string) api.Hash { return wantCode(s, secret, bits) })
			if !samePairs(b.Clashes(), clashes) || !samePairs(b.Twins(), twins) {
				t.Fatalf("P4.6: by %d bits behind %d strings", bits, i+1)
			}
			if b.Sound() != (len(clashes)+len(twins) == 0) {
				t.Fatalf("P4.6: by %d bits behind %d strings Sound() = %v", bits, i+1, b.Sound())
			}
		}
	}
}

// meeting tells so many strings with one hash by eight bits, rising.
func meeting(n int, of func(string) api.Hash) []string {
	var out []string
	for i := 0; len(out) < n; i++ {
		if s := strconv.Itoa(1000000 + i); of(s) == of("1000000") {
			out = append(out, s)
		}
	}
	return out
}

func TestSeveralWithOneHash(t *testing.T) {
	for _, kind := range []string{"clashes", "twins"} {
		of := func(s string) api.Hash { return wantHash(s, 8) }
		if kind == "twins" {
			of = func(s string) api.Hash { return wantCode(s, secret, 8) }
		}
		s := meeting(3, of)
		for _, order := range [][]int{{0, 1, 2}, {0, 2, 1}, {1, 0, 2}, {1, 2, 0}, {2, 0, 1}, {2, 1, 0}} {
			b := book(t, 8, 8)
			note, pairs := b.Hash, b.Clashes
			if kind == "twins" {
				note, pairs = b.Code, b.Twins
			}
			var noted []string
			for i, k := range order {
				note([]byte(s[k]))
				note([]byte(s[order[0]]))
				noted = append(noted, s[k])
				if !samePairs(pairs(), wantPairs(noted, of)) || len(pairs()) != i {
					t.Errorf("P4.6: %s of %d strings in the order %v: %q", kind, i+1, order, pairs())
				}
				if b.Sound() != (i == 0) {
					t.Errorf("P4.6: %s of %d strings: Sound() = %v", kind, i+1, b.Sound())
				}
			}
		}
	}
}

func TestClashesAreNoTwins(t *testing.T) {
	b := book(t, 8, 256)
	for _, s := range several(100) {
		b.Hash([]byte(s))
		b.Code([]byte(s))
	}
	if len(b.Clashes()) == 0 || len(b.Twins()) != 0 || b.Sound() {
		t.Errorf("P4.6: of 8 and 256 bits: %d clashes, %d twins", len(b.Clashes()), len(b.Twins()))
	}
	b = book(t, 256, 8)
	for _, s := range several(100) {
		b.Hash([]byte(s))
		b.Code([]byte(s))
	}
	if len(b.Clashes()) != 0 || len(b.Twins()) == 0 || b.Sound() {
		t.Errorf("P4.6: of 256 and 8 bits: %d clashes, %d twins", len(b.Clashes()), len(b.Twins()))
	}
}

func TestBeginningsOfOneAnother(t *testing.T) {
	var all []string
	for n := range 600 {
		all = append(all, string(make([]byte, n)))
	}
	want := wantPairs(all, func(s string) api.Hash { return wantHash(s, 8) })
	b := book(t, 8, 8)
	for _, s := range mixed(all, 1) {
		b.Hash([]byte(s))
	}
	if len(want) < 300 || !samePairs(b.Clashes(), want) {
		t.Error("P4.6: strings of which one is another's beginning")
	}
	checkLen(t, b, 600, 0, "behind 600 beginnings")
}

func TestMoreStringsThanHashes(t *testing.T) {
	b := book(t, 8, 256)
	for i := range 257 {
		b.Hash([]byte{byte(i), byte(i >> 8)})
	}
	clashes := b.Clashes()
	if len(clashes) == 0 {
		t.Error("P4.9: 257 strings of 8 bits without a clash")
	}
	for _, p := range clashes {
		if bytes.Equal(p.A, p.B) || b.Hash(p.A) != b.Hash(p.B) {
			t.Errorf("P4.9: the pair %x, %x is no clash", p.A, p.B)
		}
	}
}

func TestAccept(t *testing.T) {
	b := book(t, 256, 256)
	c := b.Code([]byte("x"))
	if !b.Accept([]byte("x"), c) || len(b.Forgeries()) != 0 || !b.Sound() {
		t.Error("P4.5: its own code")
	}
	for i := range 256 {
		wrong := c
		wrong[i/8] ^= 1 << (i % 8)
		if b.Accept([]byte("x"), wrong) {
			t.Errorf("P4.5: a code with its bit %d turned is accepted", i)
		}
	}
	for _, body := range []string{"y", "", "x\x00", "xx"} {
		if b.Accept([]byte(body), c) {
			t.Errorf("P4.5: %q is accepted by the code of x", body)
		}
	}
	if b.Accept([]byte("x"), api.Hash{}) || len(b.Forgeries()) != 0 || !b.Sound() {
		t.Error("P4.5: what is not accepted is a forgery")
	}
	checkLen(t, b, 0, 1, "behind one body and its acceptance")
}

func TestAcceptComparesWhole(t *testing.T) {
	for _, n := range []int{8, 9, 12, 255} {
		b := book(t, 256, n)
		c := wantCode("x", secret, n)
		if !b.Accept([]byte("x"), c) {
			t.Errorf("P4.5: the cut code of %d bits is not accepted", n)
		}
		if b.Accept([]byte("x"), wantCode("x", secret, 256)) && wantCode("x", secret, 256) != c {
			t.Errorf("P4.5: the code that is not cut is accepted by %d bits", n)
		}
		for i := range 256 {
			wrong := c
			wrong[i/8] ^= 128 >> (i % 8)
			if b.Accept([]byte("x"), wrong) {
				t.Errorf("P4.5: a code with its bit %d turned is accepted by %d bits", i, n)
			}
		}
	}
}

func TestForgeries(t *testing.T) {
	maker, b := book(t, 256, 256), book(t, 256, 256)
	bodies := []string{"x", "", "ab", "a", "\xff", "\x00"}
	var want []api.Forgery
	for i, body := range bodies {
		c := maker.Code([]byte(body))
		want = append(want, api.Forgery{Body: []byte(body), Code: c})
		for range 3 {
			if !b.Accept([]byte(body), c) {
				t.Errorf("P4.5: the right code of %q is not accepted", body)
			}
		}
		slices.SortFunc(want, func(x, y api.Forgery) int { return bytes.Compare(x.Body, y.Body) })
		if !sameForgeries(b.Forgeries(), want) || b.Sound() {
			t.Errorf("P4.5, P4.6: behind %d forgeries: %v, Sound() = %v", i+1, b.Forgeries(), b.Sound())
		}
	}
	checkLen(t, b, 0, 0, "behind acceptances alone")
	if len(b.Clashes()) != 0 || len(b.Twins()) != 0 {
		t.Error("P4.5: forgeries are pairs")
	}
	if !maker.Sound() {
		t.Error("P4.6: the book that coded is not sound")
	}
}

func TestForgeryCodedLater(t *testing.T) {
	b := book(t, 256, 256)
	c := wantCode("x", secret, 256)
	b.Accept([]byte("x"), c)
	if b.Code([]byte("x")) != c {
		t.Error("P4.4: the code of a forgery's body")
	}
	checkLen(t, b, 0, 1, "behind a forgery that was coded later")
	b.Accept([]byte("x"), c)
	if !sameForgeries(b.Forgeries(), []api.Forgery{{Body: []byte("x"), Code: c}}) || b.Sound() {
		t.Errorf("P4.5: the forgery does not stay: %v", b.Forgeries())
	}
	if len(b.Twins()) != 0 {
		t.Error("P4.4: a forgery and its coding are twins")
	}
}

// TestForgeriesWithOneCode has bodies with one code: each of them is a forgery, but for the one that was coded.
func TestForgeriesWithOneCode(t *testing.T) {
	same := meeting(4, func(s string) api.Hash { return wantCode(s, secret, 8) })
	code := wantCode(same[0], secret, 8)
	b := book(t, 8, 8)
	b.Code([]byte(same[1]))
	var want []api.Forgery
	for _, body := range same {
		want = append(want, api.Forgery{Body: []byte(body), Code: code})
	}
	want = slices.Delete(want, 1, 2)
	for _, k := range []int{3, 1, 0, 2, 1, 3} {
		if !b.Accept([]byte(same[k]), code) {
			t.Errorf("P4.5: %q is not accepted by its code", same[k])
		}
	}
	if !sameForgeries(b.Forgeries(), want) {
		t.Errorf("P4.5, P4.6: bodies with one code: %v, not %v", b.Forgeries(), want)
	}
	if len(b.Twins()) != 0 {
		t.Error("P4.5: what was accepted is a twin")
	}
	b.Code([]byte(same[0]))
	if !samePairs(b.Twins(), []api.Pair{{A: []byte(same[0]), B: []byte(same[1])}}) || len(b.Forgeries()) != 3 {
		t.Errorf("P4.4: twins behind forgeries: %q", b.Twins())
	}
}

func TestForgeriesRise(t *testing.T) {
	all := several(60)
	var want []api.Forgery
	for _, s := range wantDistinct(all) {
		want = append(want, api.Forgery{Body: []byte(s), Code: wantCode(s, secret, 9)})
	}
	for seed := range int64(3) {
		b := book(t, 256, 9)
		for _, s := range mixed(all, seed) {
			b.Accept([]byte(s), wantCode(s, secret, 9))
		}
		if !sameForgeries(b.Forgeries(), want) {
			t.Errorf("P4.6: forgeries in order %d", seed)
		}
	}
}

func TestHashingIsNotCoding(t *testing.T) {
	b := book(t, 256, 256)
	for range 2 {
		b.Hash([]byte("x"))
	}
	checkLen(t, b, 1, 0, "behind a hash")
	if !b.Accept([]byte("x"), wantCode("x", secret, 256)) || len(b.Forgeries()) != 1 {
		t.Error("P4.5: what was hashed counts as coded")
	}
	b = book(t, 256, 256)
	for range 2 {
		b.Code([]byte("x"))
	}
	checkLen(t, b, 0, 1, "behind a code")
	b.Accept([]byte("x"), wantCode("x", secret, 256))
	b.Accept([]byte("y"), wantCode("y", secret, 256))
	b.Accept([]byte("z"), api.Hash{1})
	checkLen(t, b, 0, 1, "behind acceptances")
}

func TestLen(t *testing.T) {
	for _, bits := range []int{8, 256} {
		b := book(t, bits, bits)
		all := several(50)
		distinct := make(map[string]bool)
		for i, s := range append(mixed(all, 1), mixed(all, 2)...) {
			distinct[s] = true
			b.Hash([]byte(s))
			if i%2 == 0 {
				b.Code([]byte(all[0]))
			}
			checkLen(t, b, len(distinct), 1, "behind strings that come twice")
		}
	}
	b := book(t, 256, 256)
	b.Hash(nil)
	b.Hash([]byte{})
	b.Code([]byte{})
	b.Code(nil)
	checkLen(t, b, 1, 1, "behind the empty string, nil and not (R4)")
}

func TestNilBook(t *testing.T) {
	var b *digest.Book
	if b.Hash([]byte("x")) != (api.Hash{}) || b.Hash(nil) != (api.Hash{}) || b.Code([]byte("x")) != (api.Hash{}) {
		t.Error("P4.8: Hash and Code of a nil book")
	}
	if b.Accept([]byte("x"), wantCode("x", secret, 256)) || b.Accept(nil, api.Hash{}) || b.Sound() {
		t.Error("P4.8: Accept and Sound of a nil book")
	}
	if len(b.Clashes()) != 0 || len(b.Twins()) != 0 || len(b.Forgeries()) != 0 {
		t.Error("P4.8: a nil book tells of something")
	}
	if h, c := b.Len(); h != 0 || c != 0 {
		t.Errorf("P4.8: Len of a nil book = %d, %d", h, c)
	}
}

// standsIn tells whether a string stands in pairs as B with that A, or as an A.
func standsIn(pairs []api.Pair, s, least string) bool {
	return slices.ContainsFunc(pairs, func(p api.Pair) bool {
		return string(p.A) == s || string(p.B) == s && string(p.A) == least
	})
}

func TestAllThatMeetIsTold(t *testing.T) {
	all := wantDistinct(several(60))
	b := book(t, 8, 8)
	hashes, codes := make(map[api.Hash][]string), make(map[api.Hash][]string)
	for _, s := range mixed(all, 7) {
		b.Hash([]byte(s))
		b.Code([]byte(s))
	}
	for _, s := range all {
		h, c := b.Hash([]byte(s)), b.Code([]byte(s))
		hashes[h], codes[c] = append(hashes[h], s), append(codes[c], s)
	}
	for _, side := range []struct {
		groups map[api.Hash][]string
		pairs  []api.Pair
	}{{hashes, b.Clashes()}, {codes, b.Twins()}} {
		told := 0
		for h, group := range side.groups {
			told += len(group) - 1
			for _, s := range group {
				if len(group) > 1 && !standsIn(side.pairs, s, group[0]) {
					t.Errorf("P4.9: %q of %x stands in no pair", s, h[0])
				}
			}
		}
		if told != len(side.pairs) {
			t.Errorf("P4.6: %d pairs, not %d", len(side.pairs), told)
		}
	}
}

func TestSoundBooksTellApart(t *testing.T) {
	b := book(t, 256, 256)
	all := wantDistinct(several(100))
	hashes, codes := make(map[api.Hash]string), make(map[api.Hash]string)
	for _, s := range all {
		hashes[b.Hash([]byte(s))] = s
		codes[b.Code([]byte(s))] = s
	}
	if !b.Sound() || len(hashes) != len(all) || len(codes) != len(all) {
		t.Errorf("P4.9: %d strings, %d hashes, %d codes, Sound() = %v", len(all), len(hashes), len(codes), b.Sound())
	}
}

func TestTwoBooksOfOneSecret(t *testing.T) {
	a, b := book(t, 20, 30), book(t, 20, 30)
	fewer := book(t, 13, 9)
	for i, s := range several(50) {
		if i%3 == 0 {
			b.Hash([]byte("other " + s))
			b.Code([]byte("another " + s))
			b.Accept([]byte(s), wantCode(s, secret, 30))
		}
		h, c := a.Hash([]byte(s)), a.Code([]byte(s))
		if b.Hash([]byte(s)) != h || b.Code([]byte(s)) != c || a.Hash([]byte(s)) != h || a.Code([]byte(s)) != c {
			t.Errorf("P4.10: two books of one secret tell different things of %q", s)
		}
		if fewer.Hash([]byte(s)) != first(h, 13) || fewer.Code([]byte(s)) != first(c, 9) {
			t.Errorf("P4.10: a book of fewer bits tells other bits of %q", s)
		}
	}
	n, m := a.Len()
	b.Hash([]byte("b alone"))
	b.Code([]byte("b alone"))
	checkLen(t, a, n, m, "behind what another book was given (R5)")
	if len(a.Forgeries()) != 0 || len(b.Forgeries()) == 0 {
		t.Error("R5: forgeries of one book are another one's")
	}
}

func TestAnotherSecret(t *testing.T) {
	other := bytes.Clone(secret)
	other[31] ^= 1
	b, e := digest.New(256, 256, other)
	if e != api.OK {
		t.Fatal(e)
	}
	if b.Code([]byte("x")) != wantCode("x", other, 256) || b.Hash([]byte("x")) != wantHash("x", 256) {
		t.Error("P4.4, P4.10: a book of another secret")
	}
	if b.Accept([]byte("x"), wantCode("x", secret, 256)) {
		t.Error("P4.5: a code of another secret is accepted")
	}
}

func TestManyGoroutines(t *testing.T) {
	const workers, each = 8, 200
	b := book(t, 8, 9)
	var all []string
	for i := range each {
		all = append(all, strconv.Itoa(i))
	}
	var group sync.WaitGroup
	for w := range workers {
		group.Add(1)
		go func() {
			defer group.Done()
			scratch := make([]byte, 0, 8)
			for _, s := range mixed(all, int64(w)) {
				scratch = append(scratch[:0], s...)
				if b.Hash(scratch) != wantHash(s, 8) || b.Code(scratch) != wantCode(s, secret, 9) {
					t.Errorf("P4.7: a wrong hash or code of %q", s)
				}
				scratch = append(scratch[:0], "f"+s...)
				if !b.Accept(scratch, wantCode("f"+s, secret, 9)) {
					t.Errorf("P4.7: the right code of %q is not accepted", "f"+s)
				}
				clear(scratch)
			}
			for range 5 {
				b.Clashes()
				b.Twins()
				b.Forgeries()
				b.Sound()
				b.Len()
			}
		}()
	}
	group.Wait()
	checkLen(t, b, each, each, "behind calls from several goroutines")
	if !samePairs(b.Clashes(), wantPairs(all, func(s string) api.Hash { return wantHash(s, 8) })) {
		t.Error("P4.7: clashes behind calls from several goroutines")
	}
	if !samePairs(b.Twins(), wantPairs(all, func(s string) api.Hash { return wantCode(s, secret, 9) })) {
		t.Error("P4.7: twins behind calls from several goroutines")
	}
	if len(b.Forgeries()) != each {
		t.Errorf("P4.7: %d forgeries, not %d", len(b.Forgeries()), each)
	}
}

// roomy tells a string as bytes with spare room behind them, and a look whether all of that is as it was.
func roomy(s string) ([]byte, func() bool) {
	whole := bytes.Repeat([]byte{0xee}, len(s)+16)
	copy(whole, s)
	was := bytes.Clone(whole)
	return whole[:len(s)], func() bool { return bytes.Equal(whole, was) }
}

func TestArgumentsAreNotChangedAndNotKept(t *testing.T) {
	key, keyAsWas := roomy(string(secret))
	b, e := digest.New(8, 8, key)
	if e != api.OK || !keyAsWas() {
		t.Fatalf("R3: New changes the secret, or answers %d", e)
	}
	clear(key[:cap(key)])
	all := several(40)
	for _, s := range all {
		data, dataAsWas := roomy(s)
		body, bodyAsWas := roomy(s)
		forged, forgedAsWas := roomy("forged " + s)
		b.Hash(data)
		b.Code(body)
		if !b.Accept(forged, wantCode("forged "+s, secret, 8)) {
			t.Errorf("R3: the secret is kept as it was handed in: the code of %q is not accepted", "forged "+s)
		}
		if !dataAsWas() || !bodyAsWas() || !forgedAsWas() {
			t.Errorf("R3: what was handed in is changed: %q", s)
		}
		clear(data[:cap(data)])
		clear(body[:cap(body)])
		clear(forged[:cap(forged)])
	}
	if !samePairs(b.Clashes(), wantPairs(all, func(s string) api.Hash { return wantHash(s, 8) })) {
		t.Error("P4.7, R3: clashes of strings that were changed behind the call")
	}
	if !samePairs(b.Twins(), wantPairs(all, func(s string) api.Hash { return wantCode(s, secret, 8) })) {
		t.Error("P4.7, R3: twins of bodies that were changed behind the call")
	}
	for _, f := range b.Forgeries() {
		if f.Code != wantCode(string(f.Body), secret, 8) || !bytes.HasPrefix(f.Body, []byte("forged ")) {
			t.Errorf("P4.7, R3: a forgery of a body that was changed behind the call: %q", f.Body)
		}
	}
}

// fill writes over a list to the end of its spare room.
func fill(b []byte, x byte) {
	whole := b[:cap(b)]
	for i := range whole {
		whole[i] = x
	}
}

// apart writes over each list, spare room too, and tells whether none of them shows what was written to another one.
func apart(lists [][]byte) bool {
	for shift := range 2 {
		for i, list := range lists {
			fill(list, byte(i>>(8*shift)))
		}
		for i, list := range lists {
			whole := list[:cap(list)]
			if bytes.Count(whole, []byte{byte(i >> (8 * shift))}) != len(whole) {
				return false
			}
		}
	}
	return true
}

func TestAnswersAreTheCallersOwn(t *testing.T) {
	b := book(t, 8, 8)
	all := several(40)
	for _, s := range all {
		b.Hash([]byte(s))
		b.Code([]byte(s))
		b.Accept([]byte("f"+s), wantCode("f"+s, secret, 8))
	}
	clashes, twins, forgeries := b.Clashes(), b.Twins(), b.Forgeries()
	for _, pairs := range [][]api.Pair{clashes, twins} {
		var lists [][]byte
		for _, p := range pairs {
			lists = append(lists, p.A, p.B)
		}
		if !apart(lists) {
			t.Error("R3: two strings of one answer share memory")
		}
		clear(pairs[:cap(pairs)])
	}
	var bodies [][]byte
	for _, f := range forgeries {
		bodies = append(bodies, f.Body)
	}
	if !apart(bodies) {
		t.Error("R3: two bodies of one answer share memory")
	}
	clear(forgeries[:cap(forgeries)])
	if !samePairs(b.Clashes(), wantPairs(all, func(s string) api.Hash { return wantHash(s, 8) })) {
		t.Error("R3: clashes change as what was told is written over")
	}
	if !samePairs(b.Twins(), wantPairs(all, func(s string) api.Hash { return wantCode(s, secret, 8) })) {
		t.Error("R3: twins change as what was told is written over")
	}
	for _, f := range b.Forgeries() {
		if f.Code != wantCode(string(f.Body), secret, 8) {
			t.Error("R3: forgeries change as what was told is written over")
		}
	}
	checkLen(t, b, len(wantDistinct(all)), len(wantDistinct(all)), "behind answers that were written over")
}

// TestSpareRoomCountsNothing has one string with spare room and without: it is one string.
func TestSpareRoomCountsNothing(t *testing.T) {
	b := book(t, 256, 256)
	with, _ := roomy("abc")
	if b.Hash(with) != b.Hash([]byte("abc")) || b.Code(with) != b.Code([]byte("abc")) {
		t.Error("R5: a hash or code hangs on spare room")
	}
	checkLen(t, b, 1, 1, "behind one string with spare room and without")
}
