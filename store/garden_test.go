package store_test

import (
	"maps"
	"slices"
	"strings"
	"testing"

	"cairn/api"
)

// long is a value with which no leaf stands whole.
const long = "a value that is longer than thirty-one bytes: "

// garden is a rig with a store that has committed a map whose nodes are known one by one: at the top a branch with a value, left of
// it an extension over a twig with the leaves a and b, right of it a fork with the leaves c and d.
type garden struct {
	*rig
	nodes  map[string]string // encodings by their names
	hashes map[string]api.Hash
}

// planted is the garden's map.
func planted() map[string]string {
	return map[string]string{"": "e", "\x11\x11": long + "A", "\x11\x12": long + "B", "\x21": long + "C", "\x22\x33": long + "D"}
}

const (
	inOrder = "top over twig a b fork c d" // as a walk comes by them
	inRows  = "top over fork twig c d a b" // as they are marked and scrubbed
)

// gardenNodes tells a garden's nodes, d with this value.
func gardenNodes(valueOfD string) map[string]string {
	n := map[string]string{"a": leaf("", long+"A"), "b": leaf("", long+"B"), "c": leaf("", long+"C"), "d": leaf("33", valueOfD)}
	n["twig"] = branch("", kid{1, by(n["a"])}, kid{2, by(n["b"])})
	n["over"] = ext("11", by(n["twig"]))
	n["fork"] = branch("", kid{1, by(n["c"])}, kid{2, by(n["d"])})
	n["top"] = branch("e", kid{1, by(n["over"])}, kid{2, by(n["fork"])})
	return n
}

// layGarden lays a garden over a device of so many slots and this room.
func layGarden(t *testing.T, slots, room, cache int) *garden {
	t.Helper()
	r := lay(t, slots, room, 256, 256)
	g := &garden{rig: r, nodes: gardenNodes(long + "D"), hashes: map[string]api.Hash{}}
	for name, encoding := range g.nodes {
		g.hashes[name] = hashOf(256, encoding)
	}
	r.opens(cache)
	r.sets(0, planted())
	if got, e := r.do(0, commit()); e != api.OK || got != g.hashes["top"] {
		r.fails("23.8: the garden: %x, %d", got, e)
	}
	r.has("23.8: the garden", g.by(inOrder)...)
	return g
}

// by tells the hashes of nodes by their names.
func (g *garden) by(names string) []api.Hash {
	var out []api.Hash
	for _, name := range strings.Fields(names) {
		out = append(out, g.hashes[name])
	}
	return out
}

// sets lays puts of a map into a store's batch, by the keys rising.
func (r *rig) sets(who int, entries map[string]string) *rig {
	r.t.Helper()
	for _, key := range slices.Sorted(maps.Keys(entries)) {
		r.does(who, lays(key, entries[key]))
	}
	return r
}

// hashesOf tells the hashes of encodings.
func hashesOf(encodings ...string) []api.Hash {
	var out []api.Hash
	for _, x := range encodings {
		out = append(out, hashOf(256, x))
	}
	return out
}

// state is all of a report that a test names at once.
type state struct {
	count, seq     int64
	staged, cached int
	quarantine     int
}

// is holds a store's report, its root and its failure against what the test names.
func (r *rig) is(promise string, who int, want state, root api.Hash, failed bool) {
	r.t.Helper()
	x := r.stores[who].Report()
	got := state{x.Head.Count, x.Head.Seq, x.Staged, x.Cached, len(x.Quarantine)}
	if got != want || x.Head.Root != root || x.Failed != failed {
		r.fails("%s: Report answers %+v, root %x, failed %v, not %+v, root %x, failed %v", promise, got, x.Head.Root[:3], x.Failed, want, root[:3], failed)
	}
	if reg := r.d.Media().Reg; !failed && reg != (api.Register{Count: x.Head.Count, Tag: x.Head.Tag}) {
		r.fails("%s: the register is at %d", promise, reg.Count)
	}
}

// times is a text so many times, parted by spaces.
func times(n int, text string) string {
	return strings.Join(slices.Repeat([]string{text}, n), " ")
}

// words is texts one behind the other, parted by spaces, without those that are empty.
func words(texts ...string) string {
	return strings.Join(slices.DeleteFunc(texts, func(s string) bool { return s == "" }), " ")
}
