package scrub_test

import (
	"testing"

	"cairn/api"
	"cairn/node"
	"cairn/scrub"
)

// The chapter's examples, by their numbers.

// twoLeaves lays the trie of a branch, the root, over two leaves that stand by their hashes.
func twoLeaves(t *testing.T) (r *rig, root, one, two string) {
	r = lay(t, 9, 256, 4)
	one, two = leaf("0", long), leaf("0", long+"!")
	root = branch("", kid{1, by(hashOf(256, one))}, kid{2, by(hashOf(256, two))})
	m := r.plant(map[string]string{"\x10": long, "\x20": long + "!"})
	if m.root != hashOf(256, root) || len(m.keys) != 3 {
		t.Fatalf("another trie")
	}
	return r, root, one, two
}

func TestExample1(t *testing.T) {
	r := lay(t, 9, 256, 4)
	if x, e := scrub.New(nil, r.book, key(1)); x != nil || e != api.ErrHandle {
		t.Errorf("example 1: %d", e)
	}
	p := r.begin(node.Empty(r.book))
	p.is("example 1", api.Pass{Done: true})
	p.steps("example 1", 1, api.Pass{Done: true}, api.OK, "")
	p.steps("example 1", 0, api.Pass{}, api.ErrInput, "")
	p.steps("example 1", 4097, api.Pass{}, api.ErrInput, "")
}

func TestExample2(t *testing.T) {
	r, root, _, _ := twoLeaves(t)
	p := r.begin(hashOf(256, root))
	p.steps("example 2", 1, api.Pass{Seen: 1}, api.OK, "get")
	p.steps("example 2", 1, api.Pass{Seen: 2}, api.OK, "get")
	p.steps("example 2", 9, api.Pass{Seen: 3, Done: true}, api.OK, "get")
}

func TestExample3(t *testing.T) {
	for at := range 2 {
		r, root, one, two := twoLeaves(t)
		lost := []string{one, two}[at]
		r.lose(hashOf(256, lost))
		r.begin(hashOf(256, root)).steps("example 3", 9, api.Pass{Seen: 3, Bad: 1, Done: true}, api.OK, []string{"get get- get", "get get get-"}[at])
		r.state("example 3", nil, []api.Hash{hashOf(256, lost)})
		r.repairs("example 3", lost, api.OK, "put")
		r.repairs("example 3: again", lost, api.ErrUnwanted, "")
		r.begin(hashOf(256, root)).steps("example 3: a new pass", 9, api.Pass{Seen: 3, Done: true}, api.OK, gets(3))
		r.repairs("example 3: no node", "no node", api.ErrShape, "")
		r.repairs("example 3: the root's bytes", root, api.ErrUnwanted, "")
	}
}

func TestExample4(t *testing.T) {
	r, root, _, _ := twoLeaves(t)
	r.put(hashOf(256, root), root[:len(root)-1]+"\x01")
	r.begin(hashOf(256, root)).steps("example 4", 9, api.Pass{Seen: 1, Bad: 1, Done: true}, api.OK, "get")
}

func TestExample5(t *testing.T) {
	r, root, _, _ := twoLeaves(t)
	r.choose(honest(1, choice(api.Crash, 0))...)
	p := r.begin(hashOf(256, root))
	p.steps("example 5", 9, api.Pass{}, api.ErrDown, "get get-")
	p.is("example 5", api.Pass{Seen: 1})
	r.up()
	p.steps("example 5: up again", 9, api.Pass{Seen: 3, Done: true}, api.OK, "get get")
}
