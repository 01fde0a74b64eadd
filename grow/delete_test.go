package grow_test

import (
	"fmt"
	"slices"
	"strings"
	"testing"

	"cairn/api"
)

func TestDeletesOfALeaf(t *testing.T) {
	for _, key := range []string{"", "\x12", strings.Repeat("k", 32)} {
		for _, value := range []string{"v", long} {
			r := newRig(t, 256)
			root := r.plant(map[string]string{key: value})
			if got := r.done("12.3", root, 1, 0, gone(key)); got != r.empty() {
				t.Errorf("12.3: nothing left, but %x", got)
			}
		}
	}
}

func TestDeletesOfWhatIsNotThere(t *testing.T) {
	entries := map[string]string{"\x12": "a", "\x12\x34": long, "\x12\x35": "b", "\x12\x35\x67": long + "!", "\x77": "s", "\x78": "t", "\x79\x99": "n", unhex(deep[:64]): long, unhex(deep[:60]): long}
	r := newRig(t, 256)
	root := r.plant(entries)
	for _, key := range []string{"", "\x00", "\x01", "\x10", "\x12\x30", "\x12\x34\x00", "\x12\x35\x60", "\x12\x35\x67\x00", "\x70", "\x79", "\x79\x98", "\x79\x99\x00", "\xff", unhex(deep[:62]), unhex(deep[:58]), unhex(deep[:62] + "ff")} {
		if got, e := r.do("12.3", root, gone(key)); got != root || e != api.OK || r.stage.Len() != 0 || len(r.model.asked) == 0 {
			t.Errorf("12.3, 12.5: %x: %x, %d, %d staged", key, got, e, r.stage.Len())
		}
	}
	for _, key := range []string{"", "\x12", strings.Repeat("\x00", 32)} {
		r.done("12.3: of the empty trie", r.empty(), 0, 0, gone(key))
	}
}

// left is what can be left in a branch, at an even or an odd number of nibbles: how it stands, and what becomes of it
// with the nibble 5 and any path ahead of it.
type left struct {
	what     string
	encoding string
	joined   func(path string) string
}

// lefts tells them for a kid that stands at an odd number of nibbles, or at an even one.
func lefts(r *rig, odd bool) []left {
	tail := ""
	if odd {
		tail = "1"
	}
	short := branch("", kid{1, leaf(tail+"1", "x")}, kid{2, leaf(tail+"2", "y")})
	if odd {
		short = branch("", kid{1, sibling}, kid{2, sibling})
	}
	wide := branch("", kid{1, r.byHash(leaf(flip(tail)+"22", long))}, kid{2, sibling})
	asLeaf := func(own, value string) func(string) string {
		return func(path string) string { return leaf(path+own, value) }
	}
	asExt := func(own, next string) func(string) string {
		return func(path string) string { return ext(path+own, next) }
	}
	return []left{
		{"a whole leaf", leaf(tail, "v"), asLeaf(tail, "v")},
		{"a whole leaf with a path", leaf(tail+"2345", "v"), asLeaf(tail+"2345", "v")},
		{"a leaf by its hash", leaf(tail, long), asLeaf(tail, long)},
		{"a leaf by its hash with a path", leaf(tail+"2345", long), asLeaf(tail+"2345", long)},
		{"a whole branch", short, asExt("", r.standing(short))},
		{"a branch by its hash", wide, asExt("", r.standing(wide))},
		{"a whole extension", ext("8", branch("", kid{1, leaf(tail, "x")}, kid{2, leaf(tail, "y")})), asExt("8", branch("", kid{1, leaf(tail, "x")}, kid{2, leaf(tail, "y")}))},
		{"an extension by its hash", ext("89", r.byHash(wide)), asExt("89", r.standing(wide))},
		{"a long extension", ext(tail+strings.Repeat("7", 40), r.byHash(wide)), asExt(tail+strings.Repeat("7", 40), r.standing(wide))},
	}
}

func flip(tail string) string {
	if tail == "" {
		return "1"
	}
	return ""
}

// What is left of a branch alone joins the nibble, and the extension above it, if there is one.
func TestDeletesThatLeaveOneKid(t *testing.T) {
	for _, above := range []string{"", "6", "67", "6789a"} { // the extension's path: none, or so many nibbles
		odd := len(above)%2 == 0 // the kid's place
		for i := range lefts(newRig(t, 256), odd) {
			for _, value := range []string{"r", long + " that is removed"} {
				r := newRig(t, 256)
				l := lefts(r, odd)[i]
				removed := leaf("c", value)
				if !odd {
					removed = leaf("", value)
				}
				r.lay(l.encoding)
				r.lay(removed)
				fork := branch("", kid{5, r.standing(l.encoding)}, kid{11, r.standing(removed)})
				root, key := r.lay(fork), "bc"
				if above != "" {
					root = r.lay(ext(above, r.standing(fork)))
					key = above + "b"
					if odd {
						key += "c"
					}
				}
				asked := []string{}
				if above != "" {
					asked = append(asked, ext(above, r.standing(fork)))
				}
				asked = append(asked, fork)
				if above != "" && len(fork) < 32 {
					asked = asked[:1]
				}
				if len(removed) >= 32 {
					asked = append(asked, removed)
				}
				if len(l.encoding) >= 32 {
					asked = append(asked, l.encoding)
				}
				what := fmt.Sprintf("%s is left below %q", l.what, above)
				got := r.done("12.3, 12.4, 12.5: "+what, root, len(asked), 1, gone(unhex(key)))
				if got != hashOf(256, l.joined(above+"5")) {
					t.Errorf("12.3: %s: %x", what, r.model.staged)
				}
				for j, h := range r.model.asked {
					if h != hashOf(256, asked[j]) {
						t.Errorf("12.4: %s: node %d that is read is another one", what, j)
					}
				}
			}
		}
	}
}

// The same below a branch: its place takes in what comes out.
func TestDeletesThatLeaveOneKidBelowABranch(t *testing.T) {
	for i := range lefts(newRig(t, 256), false) {
		for _, through := range []string{"", "8888"} {
			r := newRig(t, 256)
			l := lefts(r, false)[i]
			removed := leaf("", long+" that is removed")
			r.lay(l.encoding)
			fork := branch("", kid{5, r.standing(l.encoding)}, kid{11, r.byHash(removed)})
			below := fork
			r.lay(fork)
			if through != "" {
				below = ext(through, r.standing(fork))
				r.lay(below)
			}
			top := branch("", kid{1, r.standing(below)}, kid{2, sibling}, kid{3, r.byHash(leaf("12345", long))})
			root := r.lay(top)
			got, e := r.do("12.3: "+l.what, root, gone(unhex("1"+through+"b")))
			joined := l.joined(through + "5")
			want := branch("", kid{1, r.standing(joined)}, kid{2, sibling}, kid{3, r.standing(leaf("12345", long))})
			if e != api.OK || got != hashOf(256, want) {
				t.Errorf("12.3: %s is left below a branch: %x, %d", l.what, got, e)
			}
			staged := 1
			if len(joined) >= 32 {
				staged++
			}
			if r.stage.Len() != staged {
				t.Errorf("12.5: %s is left below a branch: %d staged, not %d", l.what, r.stage.Len(), staged)
			}
		}
	}
}

// A branch whose value is taken out joins its one kid likewise, and stays with two.
func TestDeletesOfABranchsValue(t *testing.T) {
	for i := range lefts(newRig(t, 256), true) {
		for _, value := range []string{"r", long + " that is removed"} {
			for _, above := range []string{"", "67"} {
				r := newRig(t, 256)
				l := lefts(r, true)[i]
				r.lay(l.encoding)
				fork := branch(value, kid{5, r.standing(l.encoding)})
				root := r.lay(fork)
				if above != "" {
					root = r.lay(ext(above, r.standing(fork)))
				}
				got, e := r.do("12.3: "+l.what, root, gone(unhex(above)))
				if e != api.OK || got != hashOf(256, l.joined(above+"5")) || r.stage.Len() != 1 {
					t.Errorf("12.3, 12.5: the value ahead of %s: %x, %d, %d staged", l.what, got, e, r.stage.Len())
				}
				if read := len(l.encoding) >= 32; read != slices.Contains(r.model.asked, hashOf(256, l.encoding)) {
					t.Errorf("12.4: %s: read: %v", l.what, !read)
				}
				two := branch(value, kid{5, r.standing(l.encoding)}, kid{6, r.byHash(leaf("1", long))})
				root = r.lay(two)
				r.anew()
				got, e = r.do("12.3: "+l.what, root, gone(""))
				if e != api.OK || got != hashOf(256, branch("", kid{5, r.standing(l.encoding)}, kid{6, r.standing(leaf("1", long))})) || len(r.model.asked) != 1 {
					t.Errorf("12.3, 12.4: a branch with two kids: %x, %d, asked %d times", got, e, len(r.model.asked))
				}
			}
		}
	}
}

// A branch that is left with its value alone becomes a leaf.
func TestDeletesThatLeaveAValue(t *testing.T) {
	for _, value := range []string{"v", long} {
		for _, removed := range []string{"r", long + " that is removed"} {
			for _, above := range []string{"", "67", "6789"} {
				r := newRig(t, 256)
				kidOf := leaf("c", removed)
				r.lay(kidOf)
				fork := branch(value, kid{11, r.standing(kidOf)})
				root := r.lay(fork)
				if above != "" {
					root = r.lay(ext(above, r.standing(fork)))
				}
				got, e := r.do("12.3", root, gone(unhex(above+"bc")))
				if e != api.OK || got != hashOf(256, leaf(above, value)) || r.stage.Len() != 1 {
					t.Errorf("12.3, 12.5: a value left: %x, %d, %d staged", got, e, r.stage.Len())
				}
				if len(removed) > 32 && r.model.asked[len(r.model.asked)-1] != hashOf(256, kidOf) {
					t.Errorf("12.4: something else is read last")
				}
			}
		}
	}
	r := newRig(t, 256) // below a branch
	fork := branch(long, kid{11, leaf("c", "removed")})
	root := r.lay(branch("", kid{1, r.byHash(ext("2", r.byHash(fork)))}, kid{2, leaf("3", "w")}))
	if got := r.done("12.3", root, 3, 2, gone("\x12\xbc")); got != hashOf(256, branch("", kid{1, r.standing(leaf("2", long))}, kid{2, leaf("3", "w")})) {
		t.Errorf("12.3: a value left below a branch: %x", got)
	}
}

// A branch with three things stays one, and nobody looks at the others.
func TestDeletesThatLeaveTwo(t *testing.T) {
	for _, value := range []string{"", "v"} {
		r := newRig(t, 256)
		kids := []kid{{5, r.byHash(leaf("1", long))}, {11, r.byHash(leaf("c", long))}, {12, leaf("d", "w")}}
		root := r.lay(branch(value, kids...))
		delete(r.src.blobs, hashOf(256, leaf("1", long)))
		if got := r.done("12.3", root, 2, 1, gone("\xbc")); got != hashOf(256, branch(value, kids[0], kids[2])) {
			t.Errorf("12.3: %x", got)
		}
		if got := r.done("12.3", root, 1, 1, gone("\xcd")); got != hashOf(256, branch(value, kids[0], kids[1])) {
			t.Errorf("12.3: %x", got)
		}
	}
	r := newRig(t, 256) // a value and a kid are two
	root := r.lay(branch("v", kid{5, r.byHash(leaf("1", long))}, kid{11, leaf("c", "w")}))
	delete(r.src.blobs, hashOf(256, leaf("1", long)))
	r.done("12.3, 12.4", root, 1, 1, gone("\xbc"))
}

// The kid that is left is read even if its hash was read on the way already.
func TestKidThatWasReadAlready(t *testing.T) {
	r := newRig(t, 256)
	same := leaf("c", long)
	root := r.lay(branch("", kid{4, r.byHash(same)}, kid{9, r.byHash(same)}))
	for _, key := range []string{"\x4c", "\x9c"} {
		r.anew()
		got := r.done("12.4", root, 3, 1, gone(key))
		if h := hashOf(256, same); !slices.Equal(r.model.asked, []api.Hash{root, h, h}) {
			t.Errorf("12.4: asked for %.3x", r.model.asked)
		}
		if other := map[string]string{"\x4c": "9c", "\x9c": "4c"}[key]; got != hashOf(256, leaf(other, long)) {
			t.Errorf("12.3: %x", got)
		}
	}
}

// atDepth lays a branch that stands so many nibbles deep, with one thing to be removed and one kid to be left, and tells the root, the digits of the key to be removed, and how many nodes are read on its way.
// Below one extension alone what is joined may grow too long for a node; below branches it does not.
func atDepth(r *rig, depth int, kept string, stairs bool) (api.Hash, string, int) {
	way := deep[:depth]
	var fork, key string
	if depth%2 == 0 {
		fork, key = branch("the value that goes, of some bytes more", kid{3, kept}), way
	} else {
		fork, key = branch("", kid{3, kept}, kid{4, leaf("", "goes, and has some bytes")}), way+"4"
	}
	read := 1
	for stairs && len(way) > 0 {
		digit := strings.Index("0123456789abcdef", way[len(way)-1:])
		fork = branch("", kid{digit, r.byHash(fork)}, kid{(digit + 1) % 16, sibling})
		way = way[:len(way)-1]
		read++
	}
	if len(way) == 0 {
		return r.lay(fork), key, read
	}
	return r.lay(ext(way, r.byHash(fork))), key, read + 1
}

// The kid that is left is looked at at its place: of 64 nibbles at most, a value at whole bytes alone.
func TestKidsAtTheirPlaces(t *testing.T) {
	for depth := range 65 {
		for _, own := range []int{0, 1, 2, 61, 62, 63, 64, 64 - depth, 63 - depth, 62 - depth, 61 - depth} {
			if own < 0 {
				continue
			}
			path := strings.Repeat("9", own)
			end := depth + 1 + own
			full := branch(long, kid{1, sibling})
			for _, c := range []struct {
				what, encoding string
				fits           bool
			}{
				{"a leaf", leaf(path, long), end <= 64 && end%2 == 0},
				{"an extension", ext(path, item(strings.Repeat("h", 32))), end <= 64},
				{"a full branch", full, depth+1 <= 64 && (depth+1)%2 == 0},
				{"a bare branch", branch("", kid{1, item(strings.Repeat("h", 32))}, kid{2, sibling}), depth+1 <= 64},
				{"a whole leaf", leaf(path[:min(own, 40)], "v"), depth+1+min(own, 40) <= 64 && (depth+1+min(own, 40))%2 == 0},
				{"a whole extension", ext(path[:min(own, 9)], branch("", kid{1, sibling}, kid{2, sibling})), depth+1+min(own, 9) <= 64},
				{"a whole full branch", branch("v", kid{1, sibling}), depth+1 <= 64 && (depth+1)%2 == 0},
			} {
				if strings.HasSuffix(c.what, "extension") && own == 0 {
					continue
				}
				for _, stairs := range []bool{false, true} {
					if stairs && depth%13 != 0 && depth < 60 {
						continue
					}
					r := newRig(t, 256)
					r.lay(c.encoding)
					root, key, read := atDepth(r, depth, r.standing(c.encoding), stairs)
					if len(c.encoding) >= 32 {
						read++
					}
					what := fmt.Sprintf("12.4: %s of %d nibbles left at %d", c.what, own, depth+1)
					switch {
					case !c.fits:
						r.refused(what, root, api.ErrNode, read, gone(unhex(key)))
					case stairs:
						r.do(what, root, gone(unhex(key)))
					default:
						r.done(what, root, read, 1, gone(unhex(key)))
					}
				}
			}
		}
	}
}
