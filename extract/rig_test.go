package extract_test

import (
	"fmt"
	"maps"
	"math/rand"
	"slices"
	"strings"
	"testing"

	"cairn/api"
	"cairn/digest"
	"cairn/extract"
	"cairn/proof"
)

func rounds(most int) int {
	if testing.Short() {
		return most / 10
	}
	return most
}

// fill writes one byte all over bytes and their spare room.
func fill(b []byte, x byte) {
	b = b[:cap(b)]
	for i := range b {
		b[i] = x
	}
}

// isAll tells whether bytes and their spare room are one byte all over.
func isAll(b []byte, x byte) bool {
	return !slices.ContainsFunc(b[:cap(b)], func(y byte) bool { return y != x })
}

// roomy tells a copy of bytes whose spare room is filled with marks.
func roomy(s string) []byte {
	return append([]byte(s), 7, 201, 0, 32, 255, 16, 9, 204)[:len(s)]
}

// whole tells bytes with their spare room.
func whole(b []byte) string { return string(b[:cap(b)]) }

// roomyList tells strings in memory of their own, in a list with spare room.
func roomyList(l []string) [][]byte {
	out := make([][]byte, 0, len(l)+2)
	for _, s := range l {
		out = append(out, roomy(s))
	}
	return append(out, []byte("spare"), nil)[:len(l)]
}

// sized tells a string of so many bytes.
func sized(n int) string {
	b := make([]byte, n)
	for i := range b {
		b[i] = byte(7*i + n)
	}
	return string(b)
}

// many tells a list of so many of one string.
func many(n int, s string) []string { return slices.Repeat([]string{s}, n) }

// without tells a list with one string less.
func without(l []string, at int) []string { return slices.Delete(slices.Clone(l), at, at+1) }

// with tells a list with one string more.
func with(l []string, at int, s string) []string { return slices.Insert(slices.Clone(l), at, s) }

// instead tells a list with another string in a place.
func instead(l []string, at int, s string) []string {
	l = slices.Clone(l)
	l[at] = s
	return l
}

func newBook(t *testing.T, bits int) *digest.Book {
	t.Helper()
	book, e := digest.New(bits, 256, make([]byte, 32))
	if e != api.OK {
		t.Fatalf("a book of %d bits: %d", bits, e)
	}
	return book
}

// aim is what a proof is about: a key, or all keys within bounds.
type aim struct {
	key    string
	b      bounds
	ranged bool
}

func to(key string) aim    { return aim{key: key} }
func over(b bounds) aim    { return aim{b: b, ranged: true} }
func overAll() aim         { return over(from("")) }
func (a aim) call() string { return map[bool]string{false: "Key", true: "Span"}[a.ranged] }

func (a aim) String() string {
	if a.ranged {
		return "Span, " + a.b.String()
	}
	return fmt.Sprintf("Key, %x", a.key)
}

// needs is what a proof shows that is about it.
func (m *trie) needs(a aim) []string {
	if a.ranged {
		return m.shown(a.b)
	}
	return m.way(a.key)
}

// rig is a book.
type rig struct {
	t    *testing.T
	bits int
	book *digest.Book
}

func newRig(t *testing.T, bits int) *rig {
	t.Helper()
	return &rig{t: t, bits: bits, book: newBook(t, bits)}
}

// handed is all that a call is handed.
type handed struct {
	nodes      [][]byte
	key, proof []byte
	b          api.Bounds
}

func hand(nodes []string, at aim, bytes string) *handed {
	return &handed{nodes: roomyList(nodes), key: roomy(at.key), proof: roomy(bytes), b: api.Bounds{From: roomy(at.b.from), To: roomy(at.b.to), Open: at.b.open}}
}

// lists are all lists of bytes in it, those in the spare room of the list of nodes too.
func (h *handed) lists() [][]byte {
	return append(slices.Clone(h.nodes[:cap(h.nodes)]), h.key, h.proof, h.b.From, h.b.To)
}

func (h *handed) tell() string {
	out := []string{fmt.Sprint(len(h.nodes))}
	for _, b := range h.lists() {
		out = append(out, fmt.Sprint(len(b), cap(b)), whole(b))
	}
	return strings.Join(out, " ")
}

// call calls Key or Span; it looks whether what was handed in is as it was, and spoils it, so that whoever has kept it loses it.
func (r *rig) call(nodes []string, root api.Hash, at aim, bytes string) found {
	r.t.Helper()
	in := hand(nodes, at, bytes)
	was := in.tell()
	var p api.Pair
	var e api.Errno
	if at.ranged {
		p, e = extract.Span(r.book, in.nodes, root, in.b, in.proof)
	} else {
		p, e = extract.Key(r.book, in.nodes, root, in.key, in.proof)
	}
	if in.tell() != was {
		r.t.Errorf("R3: %s has changed what it was handed", at.call())
	}
	out := found{string(p.A), string(p.B), e}
	all := in.lists()
	for _, b := range all {
		fill(b, 0x66)
	}
	if string(p.A) != out.a || string(p.B) != out.b {
		r.t.Errorf("R3: what %s answers shares memory with what it was handed", at.call())
	}
	fill(p.A, 0x99)
	fill(p.B, 0xaa)
	if !isAll(p.A, 0x99) {
		r.t.Errorf("R3: the two strings that %s answers share memory", at.call())
	}
	for _, b := range all {
		if !isAll(b, 0x66) {
			r.t.Errorf("R3: what %s answers shares its spare room with what it was handed", at.call())
		}
	}
	return out
}

// ask asks twice, holds the answers against the model, and looks at every pair that is told.
func (r *rig) ask(promise string, nodes []string, root api.Hash, at aim, bytes string) found {
	r.t.Helper()
	want := askKey(r.bits, nodes, root, at.key, bytes)
	if at.ranged {
		want = askSpan(r.bits, nodes, root, at.b, bytes)
	}
	for range 2 {
		if got := r.call(nodes, root, at, bytes); got != want {
			r.t.Fatalf("%s: %v with %.60x (%d bytes): %v, not %v", promise, at, bytes, len(bytes), got, want)
		}
	}
	r.lookAt(promise, want, nodes, bytes)
	return want
}

// lookAt looks at an answer: a pair is of two different strings with one hash, which the book knows of (18.4), and which stand where 18.3 says.
func (r *rig) lookAt(promise string, f found, nodes []string, bytes string) {
	r.t.Helper()
	if f.e != api.OK {
		if f.a != "" || f.b != "" {
			r.t.Fatalf("R2: %s: %v", promise, f)
		}
		return
	}
	h := hashOf(r.bits, f.a)
	if f.a == f.b || hashOf(r.bits, f.b) != h {
		r.t.Fatalf("18.4: %s: %v", promise, f)
	}
	mine := append(slices.Clone(nodes), nothing)
	var shown []string
	l, _ := proof.Unpack([]byte(bytes))
	for _, s := range l {
		shown = append(shown, string(s))
	}
	if !slices.Contains(mine, f.a) || !slices.Contains(mine, f.b) && !slices.Contains(shown, f.b) {
		r.t.Fatalf("18.3: %s: %v stand in neither the map nor the proof", promise, f)
	}
	if !knowsOf(r.book, f) {
		r.t.Fatalf("18.4: %s: the book does not know of the clash of %v", promise, f)
	}
}

// knowsOf tells whether a book has both strings among those that clash under one hash.
func knowsOf(book *digest.Book, f found) bool {
	clashes := book.Clashes()
	least := func(s string) string {
		for _, p := range clashes {
			if string(p.A) == s || string(p.B) == s {
				return string(p.A)
			}
		}
		return s + " is in none"
	}
	return least(f.a) == least(f.b)
}

// finds looks that just these two strings are told.
func (r *rig) finds(promise string, nodes []string, root api.Hash, at aim, a, b string, l ...string) {
	r.t.Helper()
	if got := r.ask(promise, nodes, root, at, listOf(l...)); got != (found{a: a, b: b}) {
		r.t.Errorf("%s: %v with %d strings: %v, not %v", promise, at, len(l), got, found{a: a, b: b})
	}
}

// findsNone looks that nothing is told.
func (r *rig) findsNone(promise string, nodes []string, root api.Hash, at aim, l ...string) {
	r.t.Helper()
	r.findsNoneIn(promise, nodes, root, at, listOf(l...))
}

// findsNoneIn looks that nothing is told of bytes.
func (r *rig) findsNoneIn(promise string, nodes []string, root api.Hash, at aim, bytes string) {
	r.t.Helper()
	if got := r.ask(promise, nodes, root, at, bytes); got != none {
		r.t.Errorf("%s: %v with %.60x (%d bytes): %v, not error 180", promise, at, bytes, len(bytes), got)
	}
}

// another tells the first of numbered strings that has this hash and is not among some.
func another(bits int, h api.Hash, numbered func(i int) string, but ...string) string {
	for i := 0; ; i++ {
		if s := numbered(i); hashOf(bits, s) == h && !slices.Contains(but, s) {
			return s
		}
	}
}

// asLeaf numbers leaves of more than 31 bytes.
func asLeaf(path string) func(i int) string {
	begins := strings.TrimSuffix(leaf(path, long+", number 0000000000"), "0000000000") // a number's end stands at the leaf's own
	return func(i int) string { return begins + fmt.Sprintf("%010d", i) }
}

// asShort numbers leaves of fewer than 32 bytes.
func asShort(path string) func(i int) string {
	return func(i int) string { return leaf(path, fmt.Sprint(i)) }
}

// asBranch numbers branches of more than 31 bytes that lead nowhere.
func asBranch(place int) func(i int) string {
	return func(i int) string { return branch("", kid{1, sibling(place + 1)}, kid{2, sibling2(place+1, i)}) }
}

// asExt numbers extensions over a branch of no known hash.
func asExt(path string) func(i int) string {
	return func(i int) string { return ext(path, byHash(hashOf(256, fmt.Sprint(i)))) }
}

// asJunk numbers strings that are no node's encoding.
func asJunk(i int) string { return fmt.Sprint("no node at all, number ", i) }

// sibling is a whole leaf that may stand at a place of so many nibbles.
func sibling(place int) string { return leaf(strings.Repeat("7", place%2), "s") }

// sibling2 is a numbered one.
func sibling2(place, i int) string { return leaf(strings.Repeat("7", place%2), fmt.Sprint(i)) }

// twinsOf tells other strings of an encoding's hash: nodes of all kinds, short ones, and no nodes.
func twinsOf(bits int, s string) []string {
	h := hashOf(bits, s)
	return []string{
		another(bits, h, asLeaf(""), s), another(bits, h, asLeaf("1"), s), another(bits, h, asLeaf("9a"), s), another(bits, h, asShort("1"), s), another(bits, h, asBranch(0), s), another(bits, h, asBranch(1), s), another(bits, h, asExt("12"), s), another(bits, h, asJunk, s),
	}
}

// grove is a map whose trie has whole nodes and nodes by their hashes.
func grove() map[string]string {
	return map[string]string{"": "e", "\x12": "a", "\x12\x34": long, "\x12\x35": "b", "\x12\x35\x67": long + "!", "\x77": "seven", "\x78": "eight", "\x79\x99": "n", unhex(deep[:64]): long, unhex(deep[:62]): "up"}
}

// yard is a trie of seven nodes by their hashes, told by their names.
//
//	top     an extension, the root, at no nibble, to 01
//	over    a branch at 01, with a value; its kid 1 is a whole leaf
//	fork    a branch at 012, its kid 5 is a whole leaf
//	middle  an extension at 0123, to 01234567
//	under   a branch at 01234567, with a value; its kid 2 is a whole leaf
//	end     a leaf at 012345678, to 0123456789
//	side    a leaf at 0124, to 012444
func yard(bits int) (root api.Hash, nodes map[string]string) {
	end, side := leaf("9", long), leaf("44", long+" beside")
	under := branch(long+" under", kid{8, refTo(bits, end)}, kid{2, leaf("1", "d")})
	middle := ext("4567", refTo(bits, under))
	fork := branch("", kid{3, refTo(bits, middle)}, kid{4, refTo(bits, side)}, kid{5, leaf("1f", "w")})
	over := branch("two", kid{1, leaf("1", "v")}, kid{2, refTo(bits, fork)})
	top := ext("01", refTo(bits, over))
	return hashOf(bits, top), map[string]string{"top": top, "over": over, "fork": fork, "middle": middle, "under": under, "end": end, "side": side}
}

// order is that in which a walk over the yard comes by its nodes.
var order = []string{"top", "over", "fork", "middle", "under", "end", "side"}

// named tells the encodings of names that are parted by spaces.
func named(nodes map[string]string, names string) []string {
	var out []string
	for _, name := range strings.Fields(names) {
		out = append(out, nodes[name])
	}
	return out
}

// yardAims are keys and bounds over the yard, and the nodes that each of them needs.
func yardAims() []struct {
	at    aim
	needs string
} {
	const all = "top over fork middle under end side"
	return []struct {
		at    aim
		needs string
	}{
		// Keys: where an extension's path does not begin them, and where they end in it.
		{to(""), "top"}, {to("\x00"), "top"}, {to("\x02"), "top"}, {to("\xff\xff"), "top"},
		{to("\x01\x23"), "top over fork middle"}, {to("\x01\x23\x45"), "top over fork middle"}, {to("\x01\x23\x46"), "top over fork middle"}, {to("\x01\x23\x45\x66"), "top over fork middle"},
		// At a branch's value, at a branch without one, at a whole leaf, beyond and beside it, at an empty kid.
		{to("\x01"), "top over"}, {to("\x01\x23\x45\x67"), "top over fork middle under"},
		{to("\x01\x11"), "top over"}, {to("\x01\x12"), "top over"}, {to("\x01\x11\x00"), "top over"}, {to("\x01\x25\x1f"), "top over fork"}, {to("\x01\x25"), "top over fork"}, {to("\x01\x25\x1f\x00"), "top over fork"},
		{to("\x01\x00"), "top over"}, {to("\x01\x30"), "top over"}, {to("\x01\x20"), "top over fork"}, {to("\x01\x2f\xff"), "top over fork"}, {to("\x01\x23\x45\x67\x90"), "top over fork middle under"}, {to("\x01\x23\x45\x67\x21"), "top over fork middle under"},
		// At a leaf by its hash, ahead of its end, beyond and beside it.
		{to("\x01\x23\x45\x67\x89"), "top over fork middle under end"}, {to("\x01\x23\x45\x67\x80"), "top over fork middle under end"}, {to("\x01\x23\x45\x67\x89\x00"), "top over fork middle under end"}, {to(unhex(deep[:64])), "top over fork middle under end"},
		{to("\x01\x24"), "top over fork side"}, {to("\x01\x24\x44"), "top over fork side"}, {to("\x01\x24\x45"), "top over fork side"}, {to("\x01\x24\x44\x44"), "top over fork side"},
		// Bounds: the lower one, at a node's place, in an extension's path, ahead of it and behind it.
		{over(from("")), all}, {over(from("\x00")), all}, {over(from("\x01")), all}, {over(from("\x02")), "top"}, {over(from("\x01\x11\x00")), all}, {over(from("\x01\x20")), all}, {over(from("\x01\x30")), "top over"},
		{over(from("\x01\x23\x44")), all}, {over(from("\x01\x23\x46")), "top over fork middle side"}, {over(from("\x01\x23\x45\x68")), "top over fork middle side"}, {over(from("\x01\x23\x45\x67\x8a")), all}, {over(from("\x01\x23\x45\x67\x90")), "top over fork middle under side"},
		{over(from("\x01\x24")), "top over fork side"}, {over(from("\x01\x24\x45")), "top over fork side"}, {over(from("\x01\x25")), "top over fork"}, {over(from("\x01\x26")), "top over fork"},
		// The upper one, which is not within.
		{over(within("", "")), ""}, {over(within("", "\x00")), "top"}, {over(within("", "\x01")), "top"}, {over(within("", "\x01\x00")), "top over"}, {over(within("", "\x01\x20")), "top over fork"}, {over(within("", "\x01\x23")), "top over fork"},
		{over(within("", "\x01\x23\x00")), "top over fork middle"}, {over(within("", "\x01\x23\x45\x67")), "top over fork middle"}, {over(within("", "\x01\x23\x45\x67\x00")), "top over fork middle under"}, {over(within("", "\x01\x23\x45\x67\x80")), "top over fork middle under end"},
		{over(within("", "\x01\x24")), "top over fork middle under end"}, {over(within("", "\x01\x24\x00")), all}, {over(within("", "\x02")), all}, {over(within("", "\xff")), all},
		// Both, where they are one, and the wrong way round.
		{over(within("\x01\x23\x45\x67", "\x01\x23\x45\x67\x00")), "top over fork middle under"}, {over(within("\x01\x23\x46", "\x01\x24")), "top over fork middle"}, {over(within("\x01\x23", "\x01\x23")), "top over fork"}, {over(within("\x01\x24\x44", "\x01\x23\x46")), "top over fork"}, {over(within("\xff", "\x00")), "top"}, {over(within("\xff", "")), ""},
	}
}

func someString(rnd *rand.Rand, size int) string {
	b := make([]byte, size)
	rnd.Read(b)
	return string(b)
}

// someKey tells a key: some are dense, some long, some begin as others do.
func someKey(rnd *rand.Rand, kind int) string {
	switch kind {
	case 0: // few digits, short: beginnings of one another
		b := make([]byte, rnd.Intn(5))
		for i := range b {
			b[i] = []byte{0x00, 0x01, 0x10, 0x11, 0xf1, 0xff}[rnd.Intn(6)]
		}
		return string(b)
	case 1: // anything
		return someString(rnd, rnd.Intn(33))
	case 2: // the longest ones, with long beginnings in common
		b := []byte(unhex(deep[:64]))
		for range rnd.Intn(3) {
			b[rnd.Intn(32)] ^= byte(1 << rnd.Intn(8))
		}
		return string(b)
	}
	return strings.Repeat("\x77", rnd.Intn(33)) // one behind the other
}

func someValue(rnd *rand.Rand) string {
	size := []int{1, 2, 20, 31, 32, 33, 55, 56, 255, 256, 1 + rnd.Intn(256)}[rnd.Intn(11)]
	return strings.Repeat(string([]byte{byte(1 + rnd.Intn(255))}), size)
}

func someMap(rnd *rand.Rand, most int) map[string]string {
	entries := map[string]string{}
	kind := rnd.Intn(5)
	for range rnd.Intn(most + 1) {
		k := kind
		if kind == 4 {
			k = rnd.Intn(4)
		}
		entries[someKey(rnd, k)] = someValue(rnd)
	}
	return entries
}

// near tells a key that is a map's, or is like one, or any.
func near(rnd *rand.Rand, entries map[string]string) string {
	key := ""
	if len(entries) > 0 {
		key = slices.Sorted(maps.Keys(entries))[rnd.Intn(len(entries))]
	}
	switch rnd.Intn(6) {
	case 0:
		return key[:rnd.Intn(len(key)+1)]
	case 1:
		b := []byte(key)
		if len(b) > 0 {
			b[rnd.Intn(len(b))] ^= byte(1 << rnd.Intn(8))
		}
		return string(b)
	case 2:
		longer := key + someKey(rnd, 0)
		return longer[:min(32, len(longer))]
	case 3:
		return someKey(rnd, rnd.Intn(4))
	}
	return key
}

func someBounds(rnd *rand.Rand, entries map[string]string) bounds {
	if rnd.Intn(3) == 0 {
		return from(near(rnd, entries))
	}
	low, high := near(rnd, entries), near(rnd, entries)
	if low > high && rnd.Intn(6) > 0 {
		low, high = high, low
	}
	return within(low, high)
}

func someAim(rnd *rand.Rand, entries map[string]string) aim {
	if rnd.Intn(2) == 0 {
		return to(near(rnd, entries))
	}
	return over(someBounds(rnd, entries))
}
