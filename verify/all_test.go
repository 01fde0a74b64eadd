package verify_test

import (
	"fmt"
	"runtime"
	"slices"
	"strings"
	"testing"
	"time"

	"cairn/api"
	"cairn/verify"
)

// many claims of a map: keys that are there and keys that are not, right proofs and wrong ones, keys that are too long, in a mixed order.
func someClaims(m *trie) []verify.Claim {
	var out []verify.Claim
	keys := nearAll(m.entries)
	for i, key := range keys {
		b := m.proof(key)
		other := m.proof(keys[(i+7)%len(keys)])
		for _, c := range [][2]string{{key, b}, {key, b + "\x00"}, {key, other}, {key, ""}, {key + sized(33), b}, {key, "\xc0"}, {key, b}, {key, b[:len(b)-1]}} {
			out = append(out, verify.Claim{Key: roomy(c[0]), Proof: roomy(c[1])})
		}
	}
	return out
}

// holdAll holds All's answers against Verify's and the model's, one by one.
func (r *rig) holdAll(root api.Hash, claims []verify.Claim) {
	r.t.Helper()
	l := verify.All(r.book, root, claims...)
	if len(l) != len(claims) {
		r.t.Fatalf("16.4: %d answers to %d claims", len(l), len(claims))
	}
	for i, c := range claims {
		want := judge(r.bits, root, string(c.Key), string(c.Proof))
		v, found, e := verify.Verify(r.book, root, c.Key, c.Proof)
		if got := verdictOf(l[i]); got != want || got != (verdict{string(v), found, e}) {
			r.t.Fatalf("16.4: answer %d of %d: %v, not %v; Verify: %.20q, %v, %d", i, len(claims), got, want, v, found, e)
		}
	}
}

func TestAllOfManyClaims(t *testing.T) {
	for _, bits := range []int{8, 40, 256} {
		r := newRig(t, bits)
		m := plant(bits, grove())
		claims := someClaims(m)
		kinds := map[api.Errno]int{}
		for _, a := range verify.All(r.book, m.root, claims...) {
			kinds[a.Err]++
		}
		if kinds[api.OK] < 50 || kinds[api.ErrInput] < 20 || kinds[api.ErrProof] < 50 || len(kinds) != 3 {
			t.Fatalf("16.4: %v of %d claims", kinds, len(claims))
		}
		r.holdAll(m.root, claims)
		backward := slices.Clone(claims)
		slices.Reverse(backward)
		r.holdAll(m.root, backward)
		r.holdAll(m.root, append(slices.Clone(claims), claims...))
		r.holdAll(emptyRoot(bits), claims)
		r.holdAll(api.Hash{}, claims)
		for n := range 9 {
			r.holdAll(m.root, claims[:n])
			r.holdAll(m.root, claims[n:2*n])
		}
	}
}

// Each claim has its own answer, in its own place, whichever is done first.
func TestAllKeepsTheOrder(t *testing.T) {
	r := newRig(t, 256)
	entries := map[string]string{}
	for i := range 256 {
		entries[string([]byte{byte(i)})] = fmt.Sprintf("the value of %d%s", i, strings.Repeat("!", i%70))
	}
	m := plant(256, entries)
	for range 20 {
		var claims []verify.Claim
		for i := range 1024 {
			key := string([]byte{byte(i * 37)})
			claims = append(claims, verify.Claim{Key: []byte(key), Proof: []byte(m.proof(key))})
			if i%10 == 9 { // an answer that is there at once
				claims[i].Key = make([]byte, 33)
			}
		}
		for i, a := range verify.All(r.book, m.root, claims...) {
			want := m.has(string([]byte{byte(i * 37)}))
			if i%10 == 9 {
				want = verdict{e: api.ErrInput}
			}
			if verdictOf(a) != want {
				t.Fatalf("16.4: answer %d: %v, not %v", i, verdictOf(a), want)
			}
		}
	}
}

func TestAllOfNoneAndOne(t *testing.T) {
	r := newRig(t, 256)
	m := plant(256, grove())
	for _, none := range [][]verify.Claim{nil, {}, make([]verify.Claim, 0, 9), someClaims(m)[:0]} {
		if l := verify.All(r.book, m.root, none...); len(l) != 0 {
			t.Errorf("16.4: no claims: %v", l)
		}
		if l := verify.All(nil, m.root, none...); len(l) != 0 {
			t.Errorf("16.4: no claims, no book: %v", l)
		}
	}
	for _, c := range someClaims(m) {
		r.holdAll(m.root, []verify.Claim{c})
	}
	r.holdAll(m.root, []verify.Claim{{}})
	r.holdAll(emptyRoot(256), []verify.Claim{{}, {Proof: []byte{0xc0}}, {}, {Key: []byte("k"), Proof: []byte{0xc0}}})
}

func TestAllWithoutABook(t *testing.T) {
	m := plant(256, grove())
	claims := someClaims(m)
	l := verify.All(nil, m.root, claims...)
	if len(l) != len(claims) {
		t.Fatalf("16.4: %d answers to %d claims", len(l), len(claims))
	}
	for i, a := range l {
		if a.Value != nil || a.Found || a.Err != api.ErrHandle {
			t.Errorf("16.4: answer %d: %v", i, a)
		}
	}
}

// All that All has begun has ended when it answers.
func TestAllHasEnded(t *testing.T) {
	r := newRig(t, 256)
	m := plant(256, grove())
	claims := someClaims(m)
	before := runtime.NumGoroutine()
	for range 20 {
		verify.All(r.book, m.root, claims...)
		hashed, _ := r.book.Len()
		for range 1000 { // the last steps of a goroutine that has nothing left to do
			if runtime.NumGoroutine() <= before {
				break
			}
			time.Sleep(time.Millisecond)
		}
		if now, _ := r.book.Len(); runtime.NumGoroutine() > before || now != hashed {
			t.Fatalf("16.4: %d goroutines, where there were %d ahead of the call; %d strings hashed, then %d", runtime.NumGoroutine(), before, hashed, now)
		}
	}
}
