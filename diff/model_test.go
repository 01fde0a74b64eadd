package diff_test

import (
	"crypto/sha256"
	"fmt"
	"slices"
	"strings"

	"cairn/api"
	"cairn/node"
)

// Nodes are written down here by themselves: an item is a text of its form's bytes, a path and a place a text of hexadecimal digits.

// item is the form of a string of bytes; no length here needs more than two bytes.
func item(s string) string {
	if len(s) == 1 && s[0] < 128 {
		return s
	}
	return head(128, len(s)) + s
}

// list is the form of a list of items.
func list(items ...string) string {
	all := strings.Join(items, "")
	return head(192, len(all)) + all
}

func head(base, size int) string {
	switch {
	case size < 56:
		return string([]byte{byte(base + size)})
	case size < 256:
		return string([]byte{byte(base + 56), byte(size)})
	}
	return string([]byte{byte(base + 57), byte(size / 256), byte(size % 256)})
}

// packed is a path in its bytes.
func packed(path string, flag int) string {
	if len(path)%2 == 1 {
		path = fmt.Sprintf("%x", flag+1) + path
	} else {
		path = fmt.Sprintf("%x0", flag) + path
	}
	return unhex(path)
}

func unhex(text string) string {
	var b []byte
	if _, err := fmt.Sscanf(text, "%x", &b); err != nil && text != "" {
		panic(text)
	}
	return string(b)
}

func leaf(path, value string) string { return list(item(packed(path, 2)), item(value)) }
func ext(path, ref string) string    { return list(item(packed(path, 0)), ref) }

// kid is how a node stands in a branch, and where.
type kid struct {
	way int
	ref string
}

func branch(value string, kids ...kid) string {
	items := make([]string, 17)
	for i := range items {
		items[i] = item("")
	}
	for _, k := range kids {
		items[k.way] = k.ref
	}
	items[16] = item(value)
	return list(items...)
}

// long is a value with which no leaf stands whole.
const long = "a value that is longer than thirty-one bytes"

// hashOf is the published hash of a string, of which the first bits count.
func hashOf(bits int, s string) api.Hash {
	h := api.Hash(sha256.Sum256([]byte(s)))
	for i := bits; i < 256; i++ {
		h[i/8] &^= 128 >> (i % 8)
	}
	return h
}

// digits tells nibbles as a text.
func digits(nibbles []byte) string {
	out := make([]byte, len(nibbles))
	for i, x := range nibbles {
		out[i] = "0123456789abcdef"[x]
	}
	return string(out)
}

// nibble tells the number of a digit.
func nibble(digit byte) int { return strings.IndexByte("0123456789abcdef", digit) }

// delta is a difference.
type delta struct {
	key, old, new string
	was, is       bool
}

func (d delta) String() string {
	told := func(has bool, v string) string {
		if !has && v == "" {
			return "-"
		}
		return fmt.Sprintf("%.12q(%d)", v, len(v))
	}
	return fmt.Sprintf("%x: %s > %s", d.key, told(d.was, d.old), told(d.is, d.new))
}

// course is all that is to be seen of a call.
type course struct {
	told  []delta
	asked []api.Hash
	e     api.Errno
}

// thing is what a side has at a place, as a text in which all of it stands: two things are the same if their texts are.
type thing struct {
	text  string // empty: nothing
	isRef bool
	ref   api.Ref
	in    int // the kind of the node in which a ref stands; 0 at the root
	value string
}

func refText(r api.Ref) string {
	switch r.Kind {
	case 1:
		return fmt.Sprintf("hash %x", r.Hash)
	case 2:
		return fmt.Sprintf("whole %x", r.Node)
	}
	return ""
}

// party is one of the two sides: the nodes that it has met, with their places. What it has at a place is found out anew each time,
// from the nearest of them above; those that don't lie above have been left for good.
type party struct {
	root   api.Ref
	places []string
	paths  []string
	met    []api.Node
}

func (p *party) at(place string) thing {
	if place == "" {
		return thing{text: refText(p.root), isRef: p.root.Kind != 0, ref: p.root}
	}
	last := len(p.met) - 1
	for last >= 0 && !strings.HasPrefix(place, p.places[last]) {
		p.places, p.paths, p.met = p.places[:last], p.paths[:last], p.met[:last]
		last--
	}
	if last < 0 {
		return thing{}
	}
	n, cut := &p.met[last], len(p.places[last])
	way, path := place[cut:], p.paths[last]
	if n.Kind == 3 && len(way) == 1 {
		r := n.Kids[nibble(way[0])]
		return thing{text: refText(r), isRef: r.Kind != 0, ref: r, in: 3}
	}
	if n.Kind == 2 && way == path {
		return thing{text: refText(n.Next), isRef: true, ref: n.Next, in: 2}
	}
	rest, goesOn := strings.CutPrefix(path, way)
	if !goesOn || n.Kind == 3 {
		return thing{}
	}
	t := thing{text: fmt.Sprintf("%d: %s, then %x %s", n.Kind, rest, n.Value, refText(n.Next))}
	if n.Kind == 1 && rest == "" {
		t.value = string(n.Value)
	}
	return t
}

// model is the chapter written down a second time: the places that are still to be looked at stand in a list, the first in the order
// of texts first, and each side tells what it has at a place by what it has met so far.
type model struct {
	bits  int
	src   *shelf
	out   course
	ahead []string // the first one stands last
}

// meet makes the node of a ref; what is asked for is written down.
func (m *model) meet(t thing, place string) (api.Node, api.Errno) {
	b := string(t.ref.Node)
	if t.ref.Kind == 1 {
		m.out.asked = append(m.out.asked, t.ref.Hash)
		told, e := m.src.tells(t.ref.Hash, len(m.out.asked))
		if e != 0 {
			return api.Node{}, e
		}
		if hashOf(m.bits, told) != t.ref.Hash || t.in != 0 && len(told) < 32 {
			return api.Node{}, 5
		}
		b = told
	}
	n, e := node.Decode([]byte(b))
	if e != 0 || t.in == 2 && n.Kind != 3 {
		return api.Node{}, 5
	}
	end := len(place) + len(n.Path)
	if end > 64 || end%2 == 1 && (n.Kind == 1 || n.Kind == 3 && n.Full) {
		return api.Node{}, 5
	}
	return n, 0
}

// valueAt tells the value of a place that a side has.
func (m *model) valueAt(p *party, t thing, place string) (string, api.Errno) {
	if !t.isRef {
		return t.value, 0
	}
	n, e := m.meet(t, place)
	if e != 0 {
		return "", e
	}
	p.places, p.paths, p.met = append(p.places, place), append(p.paths, digits(n.Path)), append(p.met, n)
	if n.Kind == 1 && len(n.Path) > 0 {
		return "", 0
	}
	return string(n.Value), 0
}

// look does what 24.2 says of a place.
func (m *model) look(old, now *party, place string) api.Errno {
	a, b := old.at(place), now.at(place)
	if a.text == b.text {
		return 0
	}
	v, e := m.valueAt(old, a, place)
	if e != 0 {
		return e
	}
	w, e := m.valueAt(now, b, place)
	if e != 0 {
		return e
	}
	if v != w {
		if len(m.out.told) == 4096 {
			return 6
		}
		m.out.told = append(m.out.told, delta{unhex(place), v, w, v != "", w != ""})
	}
	for _, x := range "0123456789abcdef" {
		next := place + string(x)
		at, _ := slices.BinarySearchFunc(m.ahead, next, func(a, b string) int { return strings.Compare(b, a) })
		m.ahead = slices.Insert(m.ahead, at, next)
	}
	return 0
}

// differ tells the course of a Diff.
func differ(bits int, src *shelf, old, now api.Hash) course {
	m := &model{bits: bits, src: src, ahead: []string{""}}
	of := func(root api.Hash) *party {
		p := &party{}
		if root != hashOf(bits, "\x80") {
			p.root = api.Ref{Kind: 1, Hash: root}
		}
		return p
	}
	a, b := of(old), of(now)
	for len(m.ahead) > 0 {
		last := len(m.ahead) - 1
		place := m.ahead[last]
		m.ahead = m.ahead[:last]
		if e := m.look(a, b, place); e != 0 {
			m.out.told, m.out.e = nil, e
			return m.out
		}
	}
	return m.out
}
