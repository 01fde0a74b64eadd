package grow_test

import (
	"crypto/sha256"
	"fmt"
	"maps"
	"slices"
	"strings"

	"cairn/api"
	"cairn/node"
)

// Nodes are written down here by themselves: an item is a text of its form's bytes, a path and a place a text of hexadecimal digits.

// item is the form of a string of bytes; no length here needs more than two bytes.
func item(s string) string {
	if len(s) == 1 && s[0] < 128 {
		return s
	}
	return head(128, len(s)) + s
}

// list is the form of a list of items.
func list(items ...string) string {
	all := strings.Join(items, "")
	return head(192, len(all)) + all
}

func head(base, size int) string {
	switch {
	case size < 56:
		return string([]byte{byte(base + size)})
	case size < 256:
		return string([]byte{byte(base + 56), byte(size)})
	}
	return string([]byte{byte(base + 57), byte(size / 256), byte(size % 256)})
}

// packed is a path in its bytes.
func packed(path string, flag int) string {
	if len(path)%2 == 1 {
		path = fmt.Sprintf("%x", flag+1) + path
	} else {
		path = fmt.Sprintf("%x0", flag) + path
	}
	return unhex(path)
}

func unhex(text string) string {
	var b []byte
	if _, err := fmt.Sscanf(text, "%x", &b); err != nil && text != "" {
		panic(text)
	}
	return string(b)
}

func leaf(path, value string) string { return list(item(packed(path, 2)), item(value)) }
func ext(path, ref string) string    { return list(item(packed(path, 0)), ref) }

// kid is how a node stands in a branch, and where.
type kid struct {
	way int
	ref string
}

func branch(value string, kids ...kid) string {
	items := make([]string, 17)
	for i := range items {
		items[i] = item("")
	}
	for _, k := range kids {
		items[k.way] = k.ref
	}
	items[16] = item(value)
	return list(items...)
}

// long is a value with which no leaf stands whole.
const long = "a value that is longer than thirty-one bytes"

// hashOf is the published hash of a string, of which the first bits count.
func hashOf(bits int, s string) api.Hash {
	h := api.Hash(sha256.Sum256([]byte(s)))
	for i := bits; i < 256; i++ {
		h[i/8] &^= 128 >> (i % 8)
	}
	return h
}

// model is a stage written down a second time: a change takes all nodes on its way to pieces, changes the pieces, and
// builds the trie of them anew by chapter 14's rule; nothing is known there of cutting and joining nodes.
type model struct {
	bits   int
	src    *shelf
	staged map[api.Hash]string
	asked  []api.Hash // of the source, by the call that is on its way
}

// piece is what stands at a place of a trie: a value, or how a node stands there that nobody has looked into.
type piece struct{ value, ref string }

// pieces of a trie by their places.
type pieces map[string]piece

// met is a node that was met on the way of a key.
type met struct {
	place string
	node  api.Node
}

// tells is 12.2.
func (m *model) tells(h api.Hash) (string, api.Errno) {
	if b, there := m.staged[h]; there {
		return b, 0
	}
	m.asked = append(m.asked, h)
	return m.src.tells(h)
}

// read is DOC.md's reading of a node that has at least so many bytes.
func (m *model) read(h api.Hash, least int) (api.Node, api.Errno) {
	b, e := m.tells(h)
	if e != 0 {
		return api.Node{}, e
	}
	n, e := node.Decode([]byte(b))
	if hashOf(m.bits, b) != h || len(b) < least || e != 0 {
		return api.Node{}, 5
	}
	return n, 0
}

func (m *model) follow(r api.Ref) (api.Node, api.Errno) {
	if r.Kind == 1 {
		return m.read(r.Hash, 32)
	}
	return node.Decode(r.Node)
}

// digits tells nibbles as a text.
func digits(nibbles []byte) string {
	out := ""
	for _, x := range nibbles {
		out += fmt.Sprintf("%x", x)
	}
	return out
}

// looked tells what is wrong with a node at a place.
func looked(n api.Node, place string) api.Errno {
	end := len(place) + len(n.Path)
	if end > 64 || (n.Kind == 1 || n.Kind == 3 && n.Full) && end%2 == 1 {
		return 5
	}
	return 0
}

// onWay tells the nodes that are met on the way of a key (chapter 11).
func (m *model) onWay(root api.Hash, key string) ([]met, api.Errno) {
	if root == hashOf(m.bits, "\x80") {
		return nil, 0
	}
	var out []met
	place := ""
	n, e := m.read(root, 0)
	for e == 0 {
		if e = looked(n, place); e != 0 {
			break
		}
		out = append(out, met{place, n})
		end := place + digits(n.Path)
		var r api.Ref
		switch {
		case n.Kind == 2 && strings.HasPrefix(key, end):
			r, place = n.Next, end
		case n.Kind == 3 && len(key) > len(end):
			r, place = n.Kids[strings.Index("0123456789abcdef", key[len(end):][:1])], key[:len(end)+1]
		}
		if r.Kind == 0 {
			return out, 0
		}
		fromExtension := n.Kind == 2
		n, e = m.follow(r)
		if e == 0 && fromExtension && n.Kind != 3 {
			e = 5
		}
	}
	return nil, e
}

// refText is the item of a ref.
func refText(r api.Ref) string {
	if r.Kind == 1 {
		return item(string(r.Hash[:]))
	}
	return string(r.Node)
}

// takeApart tells the pieces of the nodes on a way; what is met itself is no piece.
func takeApart(nodes []met) pieces {
	ps := pieces{}
	at := map[string]struct{}{}
	for _, x := range nodes {
		at[x.place] = struct{}{}
	}
	for _, x := range nodes {
		end := x.place + digits(x.node.Path)
		if len(x.node.Value) > 0 {
			ps[end] = piece{value: string(x.node.Value)}
		}
		if _, in := at[end]; x.node.Kind == 2 && !in {
			ps[end] = piece{ref: refText(x.node.Next)}
		}
		for i, r := range x.node.Kids {
			place := fmt.Sprintf("%s%x", end, i)
			if _, in := at[place]; r.Kind != 0 && !in {
				ps[place] = piece{ref: refText(r)}
			}
		}
	}
	return ps
}

// lone looks at a piece that is all that is left below a branch: what it is by itself stands for it from then on.
func (m *model) lone(ps pieces, nodes []met) api.Errno {
	for _, x := range nodes {
		if x.node.Kind != 3 {
			continue
		}
		var left []string
		for place := range ps {
			if strings.HasPrefix(place, x.place) {
				left = append(left, place)
			}
		}
		if len(left) != 1 || ps[left[0]].ref == "" {
			continue
		}
		place := left[0]
		n, e := m.follow(x.node.Kids[strings.Index("0123456789abcdef", place[len(place)-1:])])
		if e == 0 {
			e = looked(n, place)
		}
		if e != 0 {
			return e
		}
		was := ps[place]
		delete(ps, place)
		switch n.Kind {
		case 1:
			ps[place+digits(n.Path)] = piece{value: string(n.Value)}
		case 2:
			ps[place+digits(n.Path)] = piece{ref: refText(n.Next)}
		case 3:
			ps[place] = was
		}
		return 0
	}
	return 0
}

// build tells how the trie of pieces stands at a place, and writes down its nodes by their places.
func (m *model) build(ps pieces, place string, nodes map[string]string) string {
	var in []string
	for p := range ps {
		if strings.HasPrefix(p, place) {
			in = append(in, p)
		}
	}
	slices.Sort(in)
	first, last := in[0], in[len(in)-1]
	common := len(place)
	for common < min(len(first), len(last)) && first[common] == last[common] {
		common++
	}
	switch {
	case len(in) == 1 && ps[first].value != "":
		nodes[place] = leaf(first[len(place):], ps[first].value)
	case len(in) == 1 && first == place:
		return ps[first].ref
	case len(in) == 1:
		nodes[place] = ext(first[len(place):], ps[first].ref)
	case common > len(place):
		nodes[place] = ext(first[len(place):common], m.build(ps, first[:common], nodes))
	default:
		var kids []kid
		for i := range 16 {
			below := fmt.Sprintf("%s%x", place, i)
			if slices.ContainsFunc(in, func(p string) bool { return strings.HasPrefix(p, below) }) {
				kids = append(kids, kid{i, m.build(ps, below, nodes)})
			}
		}
		nodes[place] = branch(ps[place].value, kids...)
	}
	if encoding := nodes[place]; len(encoding) >= 32 {
		h := hashOf(m.bits, encoding)
		return item(string(h[:]))
	}
	return nodes[place]
}

// comesOut tells which of the new nodes come out of the change of a key (12.5): those at its places, and what is left of a node that was cut.
func comesOut(nodes map[string]string, old []met, key string) []string {
	places := map[string]struct{}{}
	for i := range len(key) + 1 {
		places[key[:i]] = struct{}{}
	}
	if len(old) > 0 {
		last := old[len(old)-1]
		end := last.place + digits(last.node.Path)
		same := 0
		for same < min(len(end), len(key)) && end[same] == key[same] {
			same++
		}
		if same < len(end) {
			places[end[:same+1]] = struct{}{}
		}
	}
	var out []string
	for _, place := range slices.Sorted(maps.Keys(places)) {
		if encoding, there := nodes[place]; there && (place == "" || len(encoding) >= 32) {
			out = append(out, encoding)
		}
	}
	return out
}

// change is one put or delete.
func (m *model) change(root api.Hash, c api.Change) (api.Hash, api.Errno) {
	key := fmt.Sprintf("%x", c.Key)
	old, e := m.onWay(root, key)
	if e != 0 {
		return api.Hash{}, e
	}
	ps := takeApart(old)
	if ps[key].value == string(c.Value) {
		return root, 0
	}
	if c.Gone {
		delete(ps, key)
		if e := m.lone(ps, old); e != 0 {
			return api.Hash{}, e
		}
	} else {
		ps[key] = piece{value: string(c.Value)}
	}
	if len(ps) == 0 {
		return hashOf(m.bits, "\x80"), 0
	}
	nodes := map[string]string{}
	m.build(ps, "", nodes)
	for _, encoding := range comesOut(nodes, old, key) {
		h := hashOf(m.bits, encoding)
		if other, there := m.staged[h]; there && other != encoding || h == hashOf(m.bits, "\x80") {
			return api.Hash{}, 4
		}
		m.staged[h] = encoding
	}
	return hashOf(m.bits, nodes[""]), 0
}

// apply is 12.6.
func (m *model) apply(root api.Hash, changes []api.Change) (api.Hash, api.Errno) {
	m.asked = nil
	for _, c := range changes {
		if len(c.Key) > 32 || c.Gone && len(c.Value) > 0 || !c.Gone && (len(c.Value) == 0 || len(c.Value) > 256) {
			return api.Hash{}, 2
		}
	}
	was := maps.Clone(m.staged)
	for _, c := range changes {
		next, e := m.change(root, c)
		if e != 0 {
			m.staged = was
			return api.Hash{}, e
		}
		root = next
	}
	return root, 0
}

// reach is 12.7: a list of what is still to be told, the next one first.
func (m *model) reach(root api.Hash) []api.Hash {
	var out []api.Hash
	todo := []api.Hash{root}
	for len(todo) > 0 {
		h := todo[0]
		todo = todo[1:]
		b, there := m.staged[h]
		if !there || slices.Contains(out, h) {
			continue
		}
		out = append(out, h)
		next, _ := node.Hashes([]byte(b))
		todo = append(next, todo...)
	}
	return out
}
