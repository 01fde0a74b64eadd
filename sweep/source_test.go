package sweep_test

import (
	"fmt"
	"strings"
	"testing"

	"cairn/api"
)

// reading is the garden's nodes in the order in which they are read from "top" on.
var reading = strings.Fields("top over mid left fork low right")

// Whatever number the source answers is the answer, and nothing is asked behind it.
func TestErrorsOfTheSource(t *testing.T) {
	for at, name := range reading {
		s := newStand(t, 256)
		g := garden(s)
		h := g[name]
		numbers := []api.Errno{-1, 8, 9, 99999, api.ErrHandle, api.ErrInput, api.ErrDown, api.ErrNode, api.ErrAbsent, api.ErrShape}
		for e := api.ErrHandle; e <= api.ErrQuery; e += 7 {
			numbers = append(numbers, e)
		}
		for _, e := range numbers {
			s.src.errs[h] = e
			s.refuses(fmt.Sprintf("error %d beside the right bytes of %s", e, name), e, at+1, g["top"])
		}
		encoding := s.src.blobs[h]
		delete(s.src.blobs, h)
		s.refuses("21.6: an error beside no bytes: "+name, numbers[len(numbers)-1], at+1, g["top"])
		delete(s.src.errs, h)
		s.refuses("21.6: lost: "+name, api.ErrAbsent, at+1, g["top"])
		s.refuses("21.6: lost, twice a root: "+name, api.ErrAbsent, at+1, g["top"], g["top"])
		s.src.blobs[h] = encoding
		s.tells("there again: "+name, byNames(g, strings.Join(reading, " ")), g["top"])
	}
}

// wrongs are bytes that a source may tell instead of others.
func wrongs(encoding string, others []string) []string {
	out := []string{"", "\x00", "\x80", "\xc0", "\x01\x02\x03", encoding[1:], encoding[:len(encoding)-1], encoding + "\x00", encoding + encoding, strings.Repeat("\xff", 2000)}
	for i := range len(encoding) {
		for _, turn := range []byte{1, 128} {
			b := []byte(encoding)
			b[i] ^= turn
			out = append(out, string(b))
		}
	}
	for _, b := range others {
		if b != encoding {
			out = append(out, b)
		}
	}
	return out
}

func TestSourceThatTellsOtherBytes(t *testing.T) {
	for at, name := range reading {
		s := newStand(t, 256)
		g := garden(s)
		var others []string
		for _, other := range reading {
			others = append(others, s.src.blobs[g[other]])
		}
		for _, told := range wrongs(others[at], others) {
			s.src.blobs[g[name]] = told
			s.refuses(fmt.Sprintf("%s told as %.20x", name, told), api.ErrNode, at+1, g["top"])
		}
		s.src.blobs[g[name]] = others[at]
		s.tells("the right bytes again", byNames(g, strings.Join(reading, " ")), g["top"])
	}
}

// noNodes are bytes that are no node's encoding.
func noNodes() []string {
	return []string{
		"these are some bytes, but they are no node's encoding", "", "\x00", "\xc0", "\x01\x02\x03", "\xc1\x80", leaf("12", ""),
		leaf(strings.Repeat("1", 65), "v"), leaf("12", strings.Repeat("v", 257)), branch("", kid{1, leaf("", "a")}), branch("v"),
		ext("", leaf("", "a")), ext("1", leaf("", "a")), leaf("12", long) + "\x00", leaf("12", long)[:20],
		list(item(packed("12", 2)), item(long), item(long)), strings.Repeat("\x00", 1024), strings.Repeat("\x00", 1025), strings.Repeat("\xc0", 140000),
	}
}

// Bytes under their right hash that are no node.
func TestWhatIsNoNode(t *testing.T) {
	for _, told := range noNodes() {
		s := newStand(t, 256)
		what := fmt.Sprintf("%.20x", told)
		as := s.lay(told)
		s.refuses("as a root: "+what, api.ErrNode, 1, as)
		top := s.lay(branch("", kid{4, by(as)}, kid{5, s.by(leaf("1", long))}))
		s.refuses("in a branch: "+what, api.ErrNode, 2, top)
		other := s.lay(branch("", kid{4, s.by(leaf("1", long))}, kid{5, by(as)}))
		s.refuses("in a branch, behind a leaf: "+what, api.ErrNode, 3, other)
		over := s.lay(ext("1", by(as)))
		s.refuses("under an extension: "+what, api.ErrNode, 2, over)
	}
}

// With few bits bytes that are another node, and have the right hash, are the node that is read, and what it leads to is told.
func TestClashes(t *testing.T) {
	for _, bits := range []int{8, 12} {
		s := newStand(t, bits)
		far := s.lay(leaf("12", long))
		h := s.lay(ext("12", by(api.Hash{0xf0})))
		s.refuses("what it leads to is lost", api.ErrAbsent, 2, h)
		for i := 0; ; i++ {
			b := branch(fmt.Sprint(long, i), kid{5, by(far)})
			if hashOf(bits, b) == h {
				s.src.blobs[h] = b
				break
			}
		}
		s.tells("another node of the same hash", []api.Hash{h, far}, h)
		if len(s.book.Clashes()) == 0 {
			t.Errorf("R7: both were read, and the book has no clash")
		}
	}
}

// Of two nodes that cannot be read the one that is read first tells the error.
func TestWhichErrorComesFirst(t *testing.T) {
	for at, one := range reading {
		for then, two := range reading {
			if at == then {
				continue
			}
			s := newStand(t, 256)
			g := garden(s)
			s.src.errs[g[one]] = api.ErrDown
			s.src.blobs[g[two]] = "other bytes"
			want, read := api.ErrDown, at+1
			if then < at {
				want, read = api.ErrNode, then+1
			}
			s.refuses(fmt.Sprintf("%s is down, %s altered", one, two), want, read, g["top"])
			s.src.errs[g[two]] = api.ErrFull
			if then < at {
				want = api.ErrFull
			}
			s.refuses(fmt.Sprintf("%s is down, %s full", one, two), want, read, g["top"])
		}
	}
}

// The order of the roots tells which of them is read first.
func TestWhichRootIsReadFirst(t *testing.T) {
	s := newStand(t, 256)
	g := garden(s)
	s.src.errs[g["right"]] = api.ErrDown
	s.src.blobs[g["left"]] = "other bytes"
	s.refuses("right ahead of left", api.ErrDown, 1, g["right"], g["left"])
	s.refuses("left ahead of right", api.ErrNode, 1, g["left"], g["right"])
	s.refuses("roots ahead of what they lead to", api.ErrNode, 2, g["fork"], g["left"])
	s.refuses("roots ahead of what they lead to", api.ErrDown, 3, g["fork"], g["low"], g["right"])
}

// A source that tells something else from one reading to the next is asked once for each hash, so it is believed once.
func TestEachIsAskedOnce(t *testing.T) {
	s := newStand(t, 256)
	g := garden(s)
	for range 3 {
		_, asked, e := s.call(byNames(g, "top top over low left top"))
		if e != api.OK || len(asked) != 7 {
			t.Fatalf("21.1: %d, with %d read", e, len(asked))
		}
		for i, h := range asked {
			for _, other := range asked[:i] {
				if h == other {
					t.Errorf("21.1: %x is read twice", h)
				}
			}
		}
	}
	s.src.aside = func() {
		if n := len(s.src.asked); n > 0 {
			delete(s.src.blobs, s.src.asked[n-1])
		}
	}
	if l, asked, e := s.call(byNames(g, "top low top")); e != api.OK || len(l) != 7 || len(asked) != 7 {
		t.Errorf("21.1: over a source that forgets what it has told: %d hashes, %d, with %d read", len(l), e, len(asked))
	}
}
