package mac_test

import (
	"bytes"
	"crypto/hmac"
	"crypto/sha256"
	"encoding/hex"
	"math/rand"
	"sync"
	"testing"

	"cairn/api"
	"cairn/mac"
	"cairn/sha"
)

// scattered tells so many bytes without a pattern, the same at every run.
func scattered(n int, seed int64) []byte {
	b := make([]byte, n)
	rand.New(rand.NewSource(seed)).Read(b)
	return b
}

// published tells the code that the library's own HMAC makes.
func published(secret, message []byte) api.Hash {
	h := hmac.New(sha256.New, secret)
	h.Write(message)
	return api.Hash(h.Sum(nil))
}

// hash tells the hash that a text of the chapter shows.
func hash(t *testing.T, text string) api.Hash {
	t.Helper()
	b, err := hex.DecodeString(text)
	if err != nil || len(b) != 32 {
		t.Fatalf("the text %q is no hash", text)
	}
	return api.Hash(b)
}

// joined tells two strings, one behind the other, as new memory.
func joined(a, b []byte) []byte { return append(bytes.Clone(a), b...) }

// secretLengths are the lengths at which a secret's block changes its form, and some beside them.
var secretLengths = []int{0, 1, 20, 31, 32, 33, 63, 64, 65, 128, 131, 200}

// messageLengths are those at which the inner sum, one block of which is the key, changes its form.
var messageLengths = []int{0, 1, 3, 54, 55, 56, 63, 64, 65, 119, 120, 127, 128, 129, 200}

const jefeWhole = "5bdcc146bf60754e6a042426089575c75a003f089d2739839dec58b964ec3843"

func TestExamples(t *testing.T) {
	for _, c := range []struct {
		secret  []byte
		message string
		code    string
	}{
		{bytes.Repeat([]byte{0x0b}, 20), "Hi There", "b0344c61d8db38535ca8afceaf0bf12b881dc200c9833da726e9376c2e32cff7"},
		{[]byte("Jefe"), "what do ya want for nothing?", jefeWhole},
		{bytes.Repeat([]byte{0xaa}, 20), string(bytes.Repeat([]byte{0xdd}, 50)), "773ea91e36800e46854db8ebd09181a72959098b3ef8c122d9635514ced565fe"},
		{bytes.Repeat([]byte{0xaa}, 131), "Test Using Larger Than Block-Size Key - Hash Key First", "60e431591ee0b67f0d8a26aacbf5b77f8e0bc6213728c5140546040f0ee37f54"},
		{nil, "", "b613679a0814d9ec772f95d778c35fc5ff1697c493715653c6c712144292c5ad"},
		{[]byte{0}, "", "b613679a0814d9ec772f95d778c35fc5ff1697c493715653c6c712144292c5ad"},
		{make([]byte, 64), "", "b613679a0814d9ec772f95d778c35fc5ff1697c493715653c6c712144292c5ad"},
	} {
		want := hash(t, c.code)
		if got := mac.Code(c.secret, []byte(c.message)); got != want {
			t.Errorf("P3.3, P3.7: the code of %q under %x is %x, not %x", c.message, c.secret, got, want)
		}
		k := mac.New(c.secret)
		k.Write([]byte(c.message))
		if got := k.Code(); got != want {
			t.Errorf("P3.2, P3.7: the code of a Keyed with %q under %x is %x, not %x", c.message, c.secret, got, want)
		}
	}
	if got := mac.Code([]byte("Jefe"), []byte("what do ya "), []byte(""), []byte("want for nothing?")); got != hash(t, jefeWhole) {
		t.Errorf("P3.3: example 2 in parts: %x", got)
	}
}

func TestExampleOfACopy(t *testing.T) {
	k := mac.New([]byte("Jefe"))
	k.Write([]byte("what do ya "))
	c := k.Copy()
	half := mac.Code([]byte("Jefe"), []byte("what do ya "))
	if got := k.Code(); got != half {
		t.Errorf("P3.2: example 6: the half's code is %x, not %x", got, half)
	}
	c.Write([]byte("want for nothing?"))
	if got := c.Code(); got != hash(t, jefeWhole) {
		t.Errorf("P3.2: example 6: the copy's code is %x", got)
	}
	if got := k.Code(); got != half {
		t.Errorf("P3.2: example 6: the half's code is %x behind what was written to the copy", got)
	}
}

func TestNewHasTakenNothing(t *testing.T) {
	for _, n := range secretLengths {
		secret := scattered(n, 1)
		if got, want := mac.New(secret).Code(), published(secret, nil); got != want {
			t.Errorf("P3.1: the code of no bytes under %d bytes is %x, not %x", n, got, want)
		}
	}
	if mac.New(nil).Code() != mac.New([]byte{}).Code() {
		t.Error("P3.1, R4: the nil secret and the empty one have different codes")
	}
}

func TestCodeUnderEveryLengthOfSecret(t *testing.T) {
	for n := range 140 {
		secret := scattered(n, int64(n))
		for _, m := range messageLengths {
			message := scattered(m, int64(m))
			if got, want := mac.Code(secret, message), published(secret, message); got != want {
				t.Errorf("P3.7: the code of %d bytes under %d bytes is %x, not %x", m, n, got, want)
			}
		}
	}
}

// madeOf tells the code by the chapter's own words, from sha.Sum alone.
func madeOf(secret, message []byte) api.Hash {
	block := bytes.Clone(secret)
	if len(secret) > 64 {
		sum := sha.Sum(secret)
		block = bytes.Clone(sum[:])
	}
	for len(block) < 64 {
		block = append(block, 0)
	}
	var inner, outer []byte
	for _, x := range block {
		inner = append(inner, x^0x36)
		outer = append(outer, x^0x5c)
	}
	one := sha.Sum(inner, message)
	return sha.Sum(outer, one[:])
}

func TestCodeIsTwoSums(t *testing.T) {
	for _, n := range secretLengths {
		for _, fill := range []byte{0, 1, 0x36, 0x5c, 0xff} {
			secret := bytes.Repeat([]byte{fill}, n)
			for _, m := range messageLengths {
				message := scattered(m, 2)
				if got, want := mac.Code(secret, message), madeOf(secret, message); got != want {
					t.Errorf("P3.7: the code of %d bytes under %d bytes %x is %x, not %x", m, n, fill, got, want)
				}
			}
		}
	}
}

func TestSecretsWithOneBlock(t *testing.T) {
	message := []byte("a message")
	for n := range 64 {
		secret := scattered(n, int64(n))
		want := mac.Code(secret, message)
		for longer := n + 1; longer <= 64; longer++ {
			if got := mac.Code(joined(secret, make([]byte, longer-n)), message); got != want {
				t.Errorf("What a code is: under %d bytes and %d zeros: %x, not %x", n, longer-n, got, want)
			}
		}
	}
	whole := scattered(64, 64)
	if mac.Code(whole, message) == mac.Code(joined(whole, []byte{0}), message) {
		t.Error("What a code is: under 64 bytes, and those with a zero behind them: the same code")
	}
	for n := 65; n < 140; n++ {
		secret := scattered(n, int64(n))
		sum := sha.Sum(secret)
		if got, want := mac.Code(secret, message), mac.Code(sum[:], message); got != want {
			t.Errorf("What a code is: under %d bytes: %x, not that under their sum, %x", n, got, want)
		}
	}
	sum := sha.Sum(whole)
	if mac.Code(whole, message) == mac.Code(sum[:], message) {
		t.Error("What a code is: a secret of 64 bytes is taken by its sum")
	}
}

func TestSecretsAndMessagesThatPart(t *testing.T) {
	// Nobody can promise it of all (P3.8); of these it holds, unless a bit is left out on the way.
	for _, n := range []int{1, 32, 63, 64, 65, 131} {
		secret, message := scattered(n, 3), scattered(100, 4)
		code := mac.Code(secret, message)
		for bit := range 8 * n {
			secret[bit/8] ^= 1 << (bit % 8)
			if mac.Code(secret, message) == code {
				t.Errorf("P3.8: bit %d of a secret of %d bytes does not count", bit, n)
			}
			secret[bit/8] ^= 1 << (bit % 8)
		}
		for bit := range 8 * len(message) {
			message[bit/8] ^= 1 << (bit % 8)
			if mac.Code(secret, message) == code {
				t.Errorf("P3.8: bit %d of a message does not count", bit)
			}
			message[bit/8] ^= 1 << (bit % 8)
		}
	}
}

// checkKeyed holds a Keyed against the bytes that it was given, asked twice.
func checkKeyed(t *testing.T, promise string, k *mac.Keyed, secret, all []byte) {
	t.Helper()
	want := published(secret, all)
	for range 2 {
		if got := k.Code(); got != want {
			t.Errorf("%s: under %d bytes, the code of %d bytes so far is %x, not %x", promise, len(secret), len(all), got, want)
		}
	}
}

func TestWriteBehindCode(t *testing.T) {
	for _, n := range secretLengths {
		secret := scattered(n, 5)
		for _, m := range messageLengths {
			for _, more := range messageLengths {
				all := scattered(m+more, 6)
				k := mac.New(secret)
				k.Write(all[:m])
				checkKeyed(t, "P3.2", k, secret, all[:m])
				k.Write(nil)
				k.Write([]byte{})
				checkKeyed(t, "P3.2", k, secret, all[:m])
				k.Write(all[m:])
				checkKeyed(t, "P3.2", k, secret, all)
			}
		}
	}
}

func TestCopy(t *testing.T) {
	for _, n := range secretLengths {
		secret := scattered(n, 7)
		for _, m := range messageLengths {
			for _, more := range []int{0, 1, 63, 64, 65, 130} {
				begin, one, two := scattered(m, 8), scattered(more, 9), scattered(more, 10)
				k := mac.New(secret)
				k.Write(begin)
				c := k.Copy()
				if c == k {
					t.Fatal("P3.2: Copy answers the Keyed itself")
				}
				checkKeyed(t, "P3.2 (copy)", c, secret, begin)
				k.Write(one)
				checkKeyed(t, "P3.2 (copy, behind a Write to the first)", c, secret, begin)
				c.Write(two)
				checkKeyed(t, "P3.2 (first, behind a Write to the copy)", k, secret, joined(begin, one))
				checkKeyed(t, "P3.2 (copy)", c, secret, joined(begin, two))
				checkKeyed(t, "P3.2 (a copy's copy)", c.Copy(), secret, joined(begin, two))
			}
		}
	}
}

func TestCodeOfParts(t *testing.T) {
	secret := []byte("Jefe")
	none := published(secret, nil)
	for _, parts := range [][][]byte{nil, {}, {nil}, {{}}, {nil, {}, nil}, {{}, {}, {}, {}}} {
		if got := mac.Code(secret, parts...); got != none {
			t.Errorf("P3.3: the code of the parts %v is %x, not that of no bytes", parts, got)
		}
	}
	for _, m := range messageLengths {
		message := scattered(m, 11)
		want := published(secret, message)
		for cut := range m + 1 {
			if got := mac.Code(secret, message[:cut], message[cut:]); got != want {
				t.Errorf("P3.3, P3.6: %d bytes, cut at %d: %x, not %x", m, cut, got, want)
			}
			if got := mac.Code(secret, nil, message[:cut], []byte{}, nil, message[cut:], nil); got != want {
				t.Errorf("P3.3, P3.6: %d bytes, cut at %d, with empty parts: %x, not %x", m, cut, got, want)
			}
		}
	}
	if mac.Code(secret, []byte("ab"), []byte("c")) == mac.Code(secret, []byte("c"), []byte("ab")) {
		t.Error("P3.3: the order of the parts does not count")
	}
}

func TestPieces(t *testing.T) {
	for size := 1; size <= 130; size++ {
		secret, all := scattered(size, 12), scattered(300, int64(size))
		k := mac.New(secret)
		for at := 0; at < len(all); at += size {
			end := min(at+size, len(all))
			k.Write(all[at:end])
			if got, want := k.Code(), mac.Code(secret, all[:end]); got != want {
				t.Errorf("P3.6: pieces of %d bytes, %d so far: %x, not %x", size, end, got, want)
			}
		}
		checkKeyed(t, "P3.6", k, secret, all)
	}
	for seed := range int64(300) {
		chance := rand.New(rand.NewSource(seed))
		secret := scattered(secretLengths[chance.Intn(len(secretLengths))], seed)
		k := mac.New(secret)
		var all []byte
		var parts [][]byte
		for range 12 {
			piece := scattered(messageLengths[chance.Intn(len(messageLengths))], chance.Int63())
			k.Write(piece)
			all = append(all, piece...)
			parts = append(parts, piece)
			if chance.Intn(2) == 0 {
				checkKeyed(t, "P3.6", k, secret, all)
			}
		}
		if mac.Code(secret, parts...) != mac.Code(secret, all) || k.Code() != mac.Code(secret, all) {
			t.Errorf("P3.6: run %d: the code hangs on the pieces", seed)
		}
	}
}

func TestEqual(t *testing.T) {
	for seed := range int64(20) {
		a := api.Hash(scattered(32, seed))
		b := a
		if !mac.Equal(a, b) || !mac.Equal(a, a) {
			t.Errorf("P3.4: %x is not equal to itself", a)
		}
		for i := range b {
			for x := 1; x < 256; x++ {
				b[i] = a[i] ^ byte(x)
				if mac.Equal(a, b) || mac.Equal(b, a) {
					t.Errorf("P3.4: %x and %x are told equal", a, b)
				}
			}
			b[i] = a[i]
		}
	}
	if !mac.Equal(api.Hash{}, api.Hash{}) {
		t.Error("P3.4: the zero Hash is not equal to itself")
	}
}

func TestEqualOfManyBytesApart(t *testing.T) {
	// Differences of two bytes that would take each other away if they were added or exclusive-or'd.
	var a api.Hash
	for i := range a {
		for j := range i {
			for _, pair := range [][2]byte{{1, 1}, {1, 255}, {128, 128}, {85, 170}} {
				var b api.Hash
				b[i], b[j] = pair[0], pair[1]
				if mac.Equal(a, b) || mac.Equal(b, a) {
					t.Errorf("P3.4: %x and %x are told equal", a, b)
				}
			}
		}
	}
	if mac.Equal(a, api.Hash(bytes.Repeat([]byte{255}, 32))) {
		t.Error("P3.4: two that part everywhere are told equal")
	}
}

func TestNilKeyed(t *testing.T) {
	var none *mac.Keyed
	for _, b := range [][]byte{nil, {}, []byte("a"), scattered(64, 1), scattered(200, 1)} {
		none.Write(b)
		if got := none.Code(); got != (api.Hash{}) {
			t.Errorf("P3.5: the code of a nil Keyed is %x", got)
		}
		if got := none.Copy(); got != nil {
			t.Errorf("P3.5: the copy of a nil Keyed is %v", got)
		}
	}
}

func TestArgumentsStay(t *testing.T) {
	for _, n := range secretLengths {
		for _, m := range messageLengths {
			secretRoom, partRoom := scattered(n+150, 13), scattered(m+150, 14)
			secretBefore, partBefore := bytes.Clone(secretRoom), bytes.Clone(partRoom)
			secret, part, other := secretRoom[:n], partRoom[:m], []byte("another part")
			parts := [][]byte{part, other, part, nil}[:3]
			code := mac.Code(secret, parts...)
			k := mac.New(secret)
			k.Write(part)
			k.Code()
			k.Copy().Write(part)
			k.Write(part)
			twice := k.Code()
			if code != published(secret, bytes.Join(parts, nil)) || twice != published(secret, joined(part, part)) {
				t.Errorf("R5: a code under %d bytes hangs on the room behind them, or behind a part", n)
			}
			if !bytes.Equal(secretRoom, secretBefore) {
				t.Errorf("R3: a secret of %d bytes, or the room behind it, was changed", n)
			}
			if !bytes.Equal(partRoom, partBefore) || string(other) != "another part" {
				t.Errorf("R3: a part of %d bytes, or the room behind it, was changed", m)
			}
			same := bytes.Equal(parts[0], part) && bytes.Equal(parts[1], other) && bytes.Equal(parts[2], part)
			if !same || parts[:4][3] != nil {
				t.Error("R3: the list of the parts, or the room behind it, was changed")
			}
		}
	}
}

// overwrite turns every byte, as a caller may once a call has answered.
func overwrite(b []byte) {
	for i := range b {
		b[i] ^= 255
	}
}

func TestArgumentsAreNotKept(t *testing.T) {
	for _, n := range secretLengths {
		for _, m := range messageLengths {
			secret, all := scattered(n, 15), scattered(m, 16)
			secretHanded, handed := bytes.Clone(secret), bytes.Clone(all)
			k := mac.New(secretHanded)
			overwrite(secretHanded)
			checkKeyed(t, "P3.1 (the secret is the caller's again)", k, secret, nil)
			k.Write(handed)
			overwrite(handed)
			checkKeyed(t, "R3 (the bytes are the caller's again)", k, secret, all)
			c := k.Copy()
			told := k.Code()
			overwrite(told[:])
			checkKeyed(t, "R3 (what was told is new)", k, secret, all)
			checkKeyed(t, "R3 (what was told is new)", c, secret, all)
		}
	}
}

func TestSideBySide(t *testing.T) {
	secret, begin := []byte("a secret"), scattered(100, 17)
	shared := mac.New(secret)
	shared.Write(begin)
	var all sync.WaitGroup
	for seed := range int64(8) {
		all.Go(func() {
			own := scattered(int(seed)*20, seed)
			for n := range 200 {
				message := scattered(n, seed)
				k := shared.Copy()
				k.Write(message)
				if mac.Code(own, message) != published(own, message) || k.Code() != published(secret, joined(begin, message)) {
					t.Errorf("R5: the code of %d bytes hangs on what others do", n)
				}
			}
		})
	}
	all.Wait()
	checkKeyed(t, "R5", shared, secret, begin)
}

func BenchmarkCode(b *testing.B) {
	secret, message := scattered(32, 1), scattered(300, 1)
	for range b.N {
		mac.Code(secret, message)
	}
}
