package fetch_test

import (
	"fmt"
	"math/rand"
	"slices"
	"testing"

	"cairn/api"
)

// pool is strings that lead to one another: nodes of all kinds, what is no node, what is no blob. With few bits many of them have one hash.
func pool(rnd *rand.Rand, bits, size int) []string {
	waste := slices.Concat(noBlobs(), noNodes(), []string{"\x80"})
	l := []string{leaf("12", long), some(rnd, waste)}
	hash := func() api.Hash {
		switch rnd.Intn(12) {
		case 0:
			return emptyRoot(bits)
		case 1:
			return hashOf(bits, fmt.Sprint(rnd.Intn(999)))
		}
		return hashOf(bits, l[rnd.Intn(len(l))])
	}
	for len(l) < size {
		switch rnd.Intn(8) {
		case 0:
			l = append(l, some(rnd, waste))
		case 1:
			l = append(l, leaf(fmt.Sprint(rnd.Intn(99)), someValue(rnd)))
		case 2:
			l = append(l, ext(fmt.Sprint(rnd.Intn(99)), hash()))
		case 3:
			l = append(l, some(rnd, l))
		case 4:
			l = append(l, fmt.Sprint("no node ", rnd.Intn(999)))
		default:
			kids := make([]api.Hash, 2+rnd.Intn(15))
			for i := range kids {
				kids[i] = hash()
			}
			l = append(l, branch([]string{"", "v", long}[rnd.Intn(3)], kids...))
		}
	}
	return l
}

// Fetches over any strings, in scripts of any calls, against the model.
func TestScripts(t *testing.T) {
	for part, bits := range []int{8, 8, 9, 10, 12, 256, 256} {
		t.Run(fmt.Sprint(part, " with ", bits), func(t *testing.T) {
			t.Parallel()
			rnd := rand.New(rand.NewSource(int64(25000 + part)))
			answers, done, fromHave := map[api.Errno]int{}, 0, 0
			for range rounds(150) {
				l := pool(rnd, bits, 20+rnd.Intn(80))
				root := hashOf(bits, some(rnd, l[len(l)/2:]))
				have := shuffled(rnd, l)[:rnd.Intn(len(l))/(1+rnd.Intn(20))]
				w := begin(t, bits, root, have...)
				for range 60 {
					b := some(rnd, l)
					for tries := 0; tries < 40 && rnd.Intn(5) > 0 && !slices.Contains(w.m.wanted, hashOf(bits, b)); tries++ {
						b = some(rnd, l)
					}
					was := w.f.Len()
					e := w.supply(b)
					answers[e]++
					if w.f.Len() > was+1 {
						fromHave++
					}
				}
				if w.f.Done() {
					done++
				}
			}
			for _, e := range []api.Errno{api.OK, api.ErrInput, api.ErrUnwanted, api.ErrShape} {
				if answers[e] < rounds(90) {
					t.Errorf("%d answers of %d: too few to tell", answers[e], e)
				}
			}
			if done < rounds(10) || fromHave < rounds(10) {
				t.Errorf("%d are done, %d times have was taken from: too few to tell", done, fromHave)
			}
		})
	}
}
