package sha_test

import (
	"bytes"
	"crypto/sha256"
	"encoding/hex"
	"math/rand"
	"strings"
	"sync"
	"testing"

	"cairn/api"
	"cairn/sha"
)

// rising tells the bytes 0, 1, 2, .. so many of them.
func rising(n int) []byte {
	b := make([]byte, n)
	for i := range b {
		b[i] = byte(i)
	}
	return b
}

// scattered tells so many bytes without a pattern, the same at every run.
func scattered(n int, seed int64) []byte {
	b := make([]byte, n)
	rand.New(rand.NewSource(seed)).Read(b)
	return b
}

// published tells the sum that the library's own SHA-256 makes.
func published(b []byte) api.Hash { return sha256.Sum256(b) }

// hash tells the hash that a text of the chapter shows.
func hash(t *testing.T, text string) api.Hash {
	b, err := hex.DecodeString(strings.ReplaceAll(text, " ", ""))
	if err != nil || len(b) != 32 {
		t.Fatalf("the text %q is no hash", text)
	}
	return api.Hash(b)
}

// blockEnds are the lengths at which the padding, or the bytes that are kept, change their form.
var blockEnds = []int{0, 1, 3, 4, 54, 55, 56, 57, 62, 63, 64, 65, 118, 119, 120, 121, 127, 128, 129, 183, 184, 191, 192, 193}

func TestExamples(t *testing.T) {
	for _, c := range []struct {
		message []byte
		sum     string
	}{
		{nil, "e3b0c442 98fc1c14 9afbf4c8 996fb924 27ae41e4 649b934c a495991b 7852b855"},
		{[]byte("abc"), "ba7816bf 8f01cfea 414140de 5dae2223 b00361a3 96177a9c b410ff61 f20015ad"},
		{[]byte("a"), "ca978112 ca1bbdca fac231b3 9a23dc4d a786eff8 147c4e72 b9807785 afee48bb"},
		{[]byte{0x80}, "76be8b52 8d0075f7 aae98d6f a57a6d3c 83ae480a 8469e668 d7b0af96 8995ac71"},
		{rising(55), "463eb28e 72f82e0a 96c0a4cc 53690c57 1281131f 672aa229 e0d45ae5 9b598b59"},
		{rising(56), "da2ae4d6 b36748f2 a318f23e 7ab1dfdf 45acdc9d 049bd80e 59de82a6 0895f562"},
		{rising(64), "fdeab9ac f3710362 bd2658cd c9a29e8f 9c757fcf 9811603a 8c447cd1 d9151108"},
		{rising(65), "4bfd2c8b 6f1eec7a 2afeb48b 934ee4b2 69418202 7e6d0fc0 75074f2f abb31781"},
		{rising(200), "1901da1c 9f699b48 f6b2636e 65cbf73a bf99d044 1ef67f5c 540a42f7 051dec6f"},
	} {
		want := hash(t, c.sum)
		if got := sha.Sum(c.message); got != want {
			t.Errorf("P2.3: the sum of %x is %x, not %x", c.message, got, want)
		}
		s := sha.New()
		s.Write(c.message)
		if got := s.Sum(); got != want {
			t.Errorf("P2.3: the sum of a state with %x is %x, not %x", c.message, got, want)
		}
	}
	if sha.Sum([]byte("a"), []byte("bc")) != sha.Sum([]byte("abc")) {
		t.Error("P2.4: Sum(a, bc) is not Sum(abc)")
	}
}

func TestPadding(t *testing.T) {
	for _, n := range blockEnds {
		for _, message := range [][]byte{rising(n), make([]byte, n), bytes.Repeat([]byte{0x80}, n), scattered(n, 2)} {
			if got, want := sha.Sum(message), published(message); got != want {
				t.Errorf("P2.2: the sum of %d bytes %x is %x, not %x", n, message, got, want)
			}
		}
	}
}

func TestPaddingOfALongMessage(t *testing.T) {
	// 8 * L needs more than four bytes from 2^29 bytes on, and more than two, three from these on.
	for _, n := range []int{1 << 13, 1<<13 + 56, 1 << 21, 1<<21 + 55} {
		message := scattered(n, int64(n))
		if sha.Sum(message) != published(message) {
			t.Errorf("P2.2: the sum of %d bytes is wrong", n)
		}
	}
	if testing.Short() {
		t.Skip("a message of 2^29 bytes takes some seconds")
	}
	piece := scattered(1<<20, 29)
	s, other := sha.New(), sha256.New()
	for range 1 << 9 {
		s.Write(piece)
		other.Write(piece)
	}
	if got := s.Sum(); got != api.Hash(other.Sum(nil)) || s.Len() != 1<<29 {
		t.Errorf("P2.2: of 2^29 bytes: the sum %x is wrong, or the length %d", got, s.Len())
	}
}

func TestSum(t *testing.T) {
	for n := range 400 {
		message := scattered(n, int64(n))
		if got, want := sha.Sum(message), published(message); got != want {
			t.Errorf("P2.3: the sum of %d bytes is %x, not %x", n, got, want)
		}
	}
	for bit := range 8 * 130 {
		message := make([]byte, 130)
		message[bit/8] = 1 << (bit % 8)
		if got, want := sha.Sum(message), published(message); got != want {
			t.Errorf("P2.3: the sum of 130 bytes with bit %d alone is %x, not %x", bit, got, want)
		}
	}
}

func TestSumOfParts(t *testing.T) {
	none := published(nil)
	for _, parts := range [][][]byte{nil, {}, {nil}, {{}}, {nil, {}, nil}, {{}, {}, {}, {}}} {
		if got := sha.Sum(parts...); got != none {
			t.Errorf("P2.4: the sum of the parts %v is %x, not that of no bytes", parts, got)
		}
	}
	for _, n := range blockEnds {
		message := scattered(n, 4)
		want := published(message)
		for cut := range n + 1 {
			if got := sha.Sum(message[:cut], message[cut:]); got != want {
				t.Errorf("P2.4: %d bytes, cut at %d: %x, not %x", n, cut, got, want)
			}
			if got := sha.Sum(nil, message[:cut], []byte{}, nil, message[cut:], nil); got != want {
				t.Errorf("P2.4: %d bytes, cut at %d, with empty parts: %x, not %x", n, cut, got, want)
			}
		}
	}
	if sha.Sum([]byte("ab"), []byte("c")) == sha.Sum([]byte("c"), []byte("ab")) {
		t.Error("P2.4: the order of the parts does not count")
	}
}

// checkState holds a state against the bytes that were written to it.
func checkState(t *testing.T, promise string, s *sha.State, all []byte) {
	t.Helper()
	if got, want := s.Sum(), published(all); got != want {
		t.Errorf("%s: the sum of %d bytes so far is %x, not %x", promise, len(all), got, want)
	}
	if s.Len() != int64(len(all)) {
		t.Errorf("%s: Len is %d, not %d", promise, s.Len(), len(all))
	}
}

func TestState(t *testing.T) {
	s := sha.New()
	checkState(t, "P2.5", s, nil)
	s.Write(nil)
	s.Write([]byte{})
	checkState(t, "P2.5", s, nil)
	s.Write([]byte("a"))
	checkState(t, "P2.5", s, []byte("a"))
	checkState(t, "P2.5", s, []byte("a"))
	s.Write(nil)
	checkState(t, "P2.5", s, []byte("a"))
	s.Write([]byte("bc"))
	checkState(t, "P2.5", s, []byte("abc"))
	checkState(t, "P2.5", sha.New(), nil)
}

func TestSumChangesNothing(t *testing.T) {
	for _, n := range blockEnds {
		for _, more := range blockEnds {
			all := scattered(n+more, 5)
			s := sha.New()
			s.Write(all[:n])
			checkState(t, "P2.5", s, all[:n])
			checkState(t, "P2.5", s, all[:n])
			s.Write(all[n:])
			checkState(t, "P2.5", s, all)
		}
	}
}

func TestCopy(t *testing.T) {
	for _, n := range blockEnds {
		for _, more := range []int{0, 1, 8, 9, 63, 64, 65, 130} {
			begin, one, two := scattered(n, 6), scattered(more, 7), scattered(more, 8)
			s := sha.New()
			s.Write(begin)
			c := s.Copy()
			if c == s {
				t.Fatal("P2.5: Copy answers the state itself")
			}
			checkState(t, "P2.5 (copy)", c, begin)
			s.Write(one)
			checkState(t, "P2.5 (copy, behind a Write to the first)", c, begin)
			c.Write(two)
			checkState(t, "P2.5 (first, behind a Write to the copy)", s, append(bytes.Clone(begin), one...))
			checkState(t, "P2.5 (copy)", c, append(bytes.Clone(begin), two...))
			checkState(t, "P2.5 (a copy's copy)", c.Copy(), append(bytes.Clone(begin), two...))
		}
	}
}

func TestNilState(t *testing.T) {
	var none *sha.State
	for _, b := range [][]byte{nil, {}, []byte("a"), rising(64), rising(200)} {
		none.Write(b)
		if got := none.Sum(); got != (api.Hash{}) {
			t.Errorf("P2.5: the sum of a nil State is %x", got)
		}
		if none.Len() != 0 || none.Copy() != nil {
			t.Errorf("P2.5: of a nil State: Len %d, Copy %v", none.Len(), none.Copy())
		}
	}
}

func TestPieces(t *testing.T) {
	for size := 1; size <= 130; size++ {
		all := scattered(300, int64(size))
		s := sha.New()
		for at := 0; at < len(all); at += size {
			end := min(at+size, len(all))
			s.Write(all[at:end])
			if got, want := s.Sum(), sha.Sum(all[:end]); got != want {
				t.Errorf("P2.6: pieces of %d bytes, %d so far: %x, not %x", size, end, got, want)
			}
		}
		checkState(t, "P2.6", s, all)
	}
	for seed := range int64(300) {
		lengths := rand.New(rand.NewSource(seed))
		s := sha.New()
		var all []byte
		for range 12 {
			piece := scattered(blockEnds[lengths.Intn(len(blockEnds))], lengths.Int63())
			s.Write(piece)
			all = append(all, piece...)
			if lengths.Intn(2) == 0 && s.Sum() != sha.Sum(all) {
				t.Errorf("P2.6: run %d, %d bytes so far: the sum is not that of all", seed, len(all))
			}
		}
		checkState(t, "P2.6", s, all)
	}
}

func TestArgumentsStay(t *testing.T) {
	for _, n := range blockEnds {
		room := scattered(n+80, 9)
		before := bytes.Clone(room)
		part := room[:n]
		other := []byte("another part")
		parts := [][]byte{part, other, part}
		sha.Sum(parts...)
		s := sha.New()
		s.Write(part)
		s.Sum()
		s.Write(part)
		s.Sum()
		if !bytes.Equal(room, before) || string(other) != "another part" {
			t.Errorf("R3: a part of %d bytes, or the room behind it, was changed", n)
		}
		if len(parts) != 3 || !bytes.Equal(parts[0], before[:n]) || !bytes.Equal(parts[1], other) || !bytes.Equal(parts[2], before[:n]) {
			t.Errorf("R3: the list of the parts was changed")
		}
	}
}

func TestArgumentsAreNotKept(t *testing.T) {
	for _, n := range blockEnds {
		all := scattered(n, 10)
		buffer := bytes.Clone(all)
		s := sha.New()
		s.Write(buffer)
		for i := range buffer {
			buffer[i] ^= 255
		}
		checkState(t, "P2.5, R3 (the caller's bytes are its own again)", s, all)
		c := s.Copy()
		got := s.Sum()
		got[0] ^= 255
		checkState(t, "R3 (what was told is new)", s, all)
		checkState(t, "R3 (what was told is new)", c, all)
	}
}

func TestSideBySide(t *testing.T) {
	var all sync.WaitGroup
	shared := sha.New()
	shared.Write(rising(100))
	for seed := range int64(8) {
		all.Go(func() {
			for n := range 200 {
				message := scattered(n, seed)
				s := shared.Copy()
				s.Write(message)
				if sha.Sum(message) != published(message) || s.Sum() != published(append(rising(100), message...)) {
					t.Errorf("R5: the sum of %d bytes hangs on what others do", n)
				}
			}
		})
	}
	all.Wait()
	checkState(t, "R5", shared, rising(100))
}

func BenchmarkSum(b *testing.B) {
	message := scattered(1<<16, 1)
	b.SetBytes(int64(len(message)))
	for range b.N {
		sha.Sum(message)
	}
}

func BenchmarkSumOfANode(b *testing.B) {
	message := scattered(100, 1)
	for range b.N {
		sha.Sum(message)
	}
}
