package grow_test

import (
	"fmt"
	"maps"
	"strings"
	"testing"

	"cairn/api"
)

// deep is a way of 64 nibbles, and of some more for what lies beyond.
const deep = "0123456789abcdeffedcba98765432100f1e2d3c4b5a69788796a5b4c3d2e1f0" + "123456789abcdef0123456789abcdef0123456789abcdef0123456789abcdef01234567"

// sibling is what stands beside the way in branches that have nothing else.
const sibling = "\xc2\x20\x73"

// inPlaces puts a value under a key by the stage, from the source and from the stage alike, and wants a root's encoding.
func (r *rig) inPlaces(what string, root api.Hash, c api.Change, want string) {
	r.t.Helper()
	for range 2 { // the second time all is staged already
		got, e := r.do("12.3: "+what, root, c)
		if e != api.OK || want != "" && got != hashOf(r.bits, want) {
			r.t.Errorf("12.3: %s: %x, %d", what, got, e)
		}
	}
}

func TestPutsIntoTheEmptyTrie(t *testing.T) {
	for bits := 16; bits <= 256; bits += 40 {
		for _, key := range []string{"", "\x00", "\xff", "\x12\x34", strings.Repeat("k", 31), strings.Repeat("k", 32)} {
			for _, value := range []string{"v", "\x00", "\x80", long} {
				r := newRig(t, bits)
				r.src.errs[r.empty()] = api.ErrDown // nobody asks for it
				root := r.done("12.3", r.empty(), 0, 1, put(key, value))
				if want := hashOf(bits, leaf(fmt.Sprintf("%x", key), value)); root != want {
					t.Errorf("12.3: %x: %x, not %x", key, root, want)
				}
				r.done("12.5", root, 0, 0, put(key, value))
				if back := r.done("12.3", root, 0, 0, gone(key)); back != r.empty() {
					t.Errorf("12.3: %x", back)
				}
			}
		}
	}
}

// A leaf that the key parts from, ends at, or goes beyond.
func TestPutsAtALeaf(t *testing.T) {
	for _, old := range []string{"a", long} {
		for _, value := range []string{"b", long + "!"} {
			r := newRig(t, 256)
			root := r.lay(leaf("123456", old))
			of := func(path, value string) string { return r.standing(leaf(path, value)) }
			for _, c := range []struct{ what, key, want string }{
				{"parts at once", "\x99", branch("", kid{1, of("23456", old)}, kid{9, of("9", value)})},
				{"parts behind one nibble", "\x19\x99", ext("1", r.standing(branch("", kid{2, of("3456", old)}, kid{9, of("99", value)})))},
				{"parts behind two", "\x12\x99", ext("12", r.standing(branch("", kid{3, of("456", old)}, kid{9, of("9", value)})))},
				{"parts at the last nibble", "\x12\x34\x59", ext("12345", r.standing(branch("", kid{6, of("", old)}, kid{9, of("", value)})))},
				{"ends at the root", "", branch(value, kid{1, of("23456", old)})},
				{"ends within", "\x12", ext("12", r.standing(branch(value, kid{3, of("456", old)})))},
				{"ends at the last but two", "\x12\x34", ext("1234", r.standing(branch(value, kid{5, of("6", old)})))},
				{"goes beyond", "\x12\x34\x56\x78", ext("123456", r.standing(branch(old, kid{7, of("8", value)})))},
				{"goes far beyond", "\x12\x34\x56" + strings.Repeat("\x77", 29), ext("123456", r.standing(branch(old, kid{7, of(strings.Repeat("7", 57), value)})))},
				{"is the leaf's", "\x12\x34\x56", leaf("123456", value)},
			} {
				r.anew()
				r.inPlaces("the key "+c.what, root, put(c.key, value), c.want)
				want := map[string]string{"\x12\x34\x56": old}
				want[c.key] = value
				got, _ := r.do("12.3", root, put(c.key, value))
				r.holds("12.9: the key "+c.what, got, want, "", "\x12", "\x12\x34", "\x99", "\x12\x34\x56\x00")
				r.holds("12.9: the old root", root, map[string]string{"\x12\x34\x56": old}, "", "\x99", "\x12", "\x12\x34\x56\x78")
			}
			r.anew()
			r.done("12.5: the value that is there", root, 1, 0, put("\x12\x34\x56", old))
		}
	}
}

// standing tells how an encoding stands in another node.
func (r *rig) standing(encoding string) string {
	if len(encoding) < 32 {
		return encoding
	}
	h := hashOf(r.bits, encoding)
	return item(string(h[:]))
}

// An extension that the key parts from, ends at, ends within, or goes beyond.
func TestPutsAtAnExtension(t *testing.T) {
	for _, whole := range []bool{false, true} {
		for _, value := range []string{"b", long + "!"} {
			r := newRig(t, 256)
			fork := branch("", kid{1, leaf("1", "v")}, kid{2, leaf("2", "w")})
			next := fork
			if !whole {
				fork = branch("", kid{1, r.byHash(leaf("1", long))}, kid{2, leaf("2", "w")})
				next = r.byHash(fork)
			}
			root := r.lay(ext("123456", next))
			of := func(path string) string { return r.standing(leaf(path, value)) }
			under := func(path string) string { return r.standing(ext(path, next)) }
			for _, c := range []struct {
				what, key, want string
				asked           int
			}{
				{"parts at once", "\x99", branch("", kid{1, under("23456")}, kid{9, of("9")}), 1},
				{"parts behind one nibble", "\x19\x99", ext("1", r.standing(branch("", kid{2, under("3456")}, kid{9, of("99")}))), 1},
				{"parts at the last nibble but one", "\x12\x34\x99", ext("1234", r.standing(branch("", kid{5, under("6")}, kid{9, of("9")}))), 1},
				{"parts at the last nibble", "\x12\x34\x59", ext("12345", r.standing(branch("", kid{6, next}, kid{9, of("")}))), 1},
				{"ends at the root", "", branch(value, kid{1, under("23456")}), 1},
				{"ends within", "\x12", ext("12", r.standing(branch(value, kid{3, under("456")}))), 1},
				{"ends at the last nibble but two", "\x12\x34", ext("1234", r.standing(branch(value, kid{5, under("6")}))), 1},
				{"ends at its end", "\x12\x34\x56", "", 2},
				{"goes on into the branch", "\x12\x34\x56\x99", "", 2},
				{"goes on to a leaf", "\x12\x34\x56\x22", "", 2},
				{"goes on beyond a leaf", "\x12\x34\x56\x22\x33", "", 2},
			} {
				asked := c.asked
				if whole {
					asked = 1
				}
				r.anew()
				got, e := r.do("12.3: the key "+c.what, root, put(c.key, value))
				if e != api.OK || len(r.model.asked) != asked || c.want != "" && got != hashOf(256, c.want) {
					t.Errorf("12.3, 12.4: the key %s: %x, %d, asked %d times", c.what, got, e, len(r.model.asked))
				}
				r.holds("12.9", got, map[string]string{c.key: value})
				if back, e := r.do("12.11", got, gone(c.key)); c.what != "goes on to a leaf" && (e != api.OK || back != root) {
					t.Errorf("12.11: the key %s: %x, %d", c.what, back, e)
				}
			}
		}
	}
}

// An extension of one nibble is gone as soon as it is cut.
func TestPutsAtAnExtensionOfOneNibble(t *testing.T) {
	for _, fork := range []string{branch("", kid{1, sibling}, kid{2, sibling}), branch("", kid{1, leaf("11", long[:20])}, kid{2, sibling})} {
		r := newRig(t, 256)
		next := r.standing(fork)
		r.lay(fork)
		root := r.lay(ext("7", next))
		r.inPlaces("a key that parts", root, put("\x55", "v"), branch("", kid{5, leaf("5", "v")}, kid{7, next}))
		r.inPlaces("a key that ends", root, put("", "v"), branch("v", kid{7, next}))
		if r.stage.Len() != 2 {
			t.Errorf("12.5: a node that only hangs on another one now is staged: %d", r.stage.Len())
		}
	}
}

func TestPutsAtABranch(t *testing.T) {
	for _, value := range []string{"b", long + "!"} {
		for _, own := range []string{"", "there", long} {
			r := newRig(t, 256)
			inner := branch("", kid{7, sibling}, kid{8, r.byHash(leaf("", long))})
			root := r.lay(branch(own, kid{2, leaf("3", "v")}, kid{4, r.byHash(leaf("5", long))}, kid{6, r.byHash(inner)}))
			was := map[string]string{"\x23": "v", "\x45": long, "\x67": "s", "\x68": long}
			if own != "" {
				was[""] = own
			}
			for _, c := range []struct {
				what, key   string
				asked, more int // more: with the long value, which never stands whole
			}{
				{"ends there", "", 1, 1},
				{"goes on to nothing", "\x99", 1, 2},
				{"goes on to a whole leaf", "\x23", 1, 2},
				{"parts from a whole leaf", "\x24", 1, 3},
				{"goes beyond a whole leaf", "\x23\x45", 1, 4},
				{"goes on to a leaf", "\x45", 2, 2},
				{"parts from a leaf", "\x44", 2, 4},
				{"goes beyond a leaf", "\x45\x45", 2, 4},
				{"goes on to an empty way of the branch below", "\x69", 2, 3},
				{"goes on to a whole leaf below", "\x67", 2, 3},
				{"goes on to a leaf below", "\x68", 3, 3},
				{"goes beyond a leaf below", "\x68\x00", 3, 4},
			} {
				r.anew()
				got, e := r.do("12.3: the key "+c.what, root, put(c.key, value))
				if e != api.OK || len(r.model.asked) != c.asked || len(value) > 32 && r.stage.Len() != c.more {
					t.Errorf("12.3, 12.4, 12.5: the key %s: %d, asked %d times, %d staged", c.what, e, len(r.model.asked), r.stage.Len())
				}
				now := maps.Clone(was)
				now[c.key] = value
				r.holds("12.9: the key "+c.what, got, now, "", "\x23\x45", "\x99", "\x44")
				r.holds("12.9: the old root", root, was, "", c.key)
				if want, _ := r.trie(now); got != want {
					t.Errorf("12.3: the key %s: another root than the map's", c.what)
				}
			}
		}
	}
}

// The value that is there already, wherever it stands, changes nothing.
func TestPutsOfTheValueThatIsThere(t *testing.T) {
	entries := map[string]string{"": "e", "\x12": "a", "\x12\x34": long, "\x12\x35": "b", "\x12\x35\x67": long + "!", "\x77": "s", "\x78": "t", "\x79\x99": "n", unhex(deep[:64]): long, unhex(deep[:62]): "up"}
	r := newRig(t, 256)
	root := r.plant(entries)
	for key, value := range entries {
		if got, e := r.do("12.3", root, put(key, value)); got != root || e != api.OK || r.stage.Len() != 0 || len(r.model.asked) == 0 {
			t.Errorf("12.3, 12.4, 12.5: %x: %x, %d, %d staged, asked %d times", key, got, e, r.stage.Len(), len(r.model.asked))
		}
	}
	for key, value := range entries { // one byte more, less or other is another value
		for _, other := range []string{value + "\x00", "\x00" + value, value[1:] + "?"} {
			if got, e := r.do("12.3", root, put(key, other)); got == root || e != api.OK {
				t.Errorf("12.3: %x: %x, %d", key, got, e)
			}
		}
	}
}

// Puts at every depth, of keys that part there, end there or go beyond.
func TestPutsAtEveryDepth(t *testing.T) {
	for d := range 65 {
		for _, value := range []string{"v", long} {
			r := newRig(t, 256)
			root := r.plant(map[string]string{unhex(deep[:64]): value})
			key := keyOf(deep[:d])
			if d < 64 {
				other := []byte(unhex(deep[:64]))
				other[d/2] ^= []byte{0x10, 0x01}[d%2]
				key = string(other)
			}
			got, e := r.do(fmt.Sprintf("12.3: at %d nibbles", d), root, put(key, long+"!"))
			if want, _ := r.trie(map[string]string{unhex(deep[:64]): value, key: long + "!"}); e != api.OK || got != want {
				t.Errorf("12.3: at %d nibbles: %x, %d", d, got, e)
			}
			short := keyOf(deep[:d])
			entries := map[string]string{unhex(deep[:64]): value, key: long + "!", short: "w"}
			want, _ := r.trie(entries)
			if got, e := r.do(fmt.Sprintf("12.3: up to %d nibbles", d), got, put(short, "w")); e != api.OK || got != want {
				t.Errorf("12.3: up to %d nibbles: %x, %d", d, got, e)
			}
		}
	}
}

// keyOf is the key of so many digits, the last of them left out if they are odd.
func keyOf(digits string) string { return unhex(digits[:len(digits)/2*2]) }
