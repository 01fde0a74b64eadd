package sweep_test

import (
	"crypto/sha256"
	"fmt"
	"slices"
	"strings"

	"cairn/api"
	"cairn/hstore"
	"cairn/media"
	"cairn/node"
)

// Nodes are written down here by themselves: an item is a text of its form's bytes, a path a text of hexadecimal digits.

// item is the form of a string of bytes.
func item(s string) string {
	if len(s) == 1 && s[0] < 128 {
		return s
	}
	return head(128, len(s)) + s
}

// list is the form of a list of items.
func list(items ...string) string {
	all := strings.Join(items, "")
	return head(192, len(all)) + all
}

func head(base, size int) string {
	switch {
	case size < 56:
		return string([]byte{byte(base + size)})
	case size < 256:
		return string([]byte{byte(base + 56), byte(size)})
	}
	return string([]byte{byte(base + 57), byte(size / 256), byte(size % 256)})
}

// packed is a path in its bytes.
func packed(path string, flag int) string {
	if len(path)%2 == 1 {
		path = fmt.Sprintf("%x", flag+1) + path
	} else {
		path = fmt.Sprintf("%x0", flag) + path
	}
	return unhex(path)
}

func unhex(text string) string {
	var b []byte
	if _, err := fmt.Sscanf(text, "%x", &b); err != nil && text != "" {
		panic(text)
	}
	return string(b)
}

func leaf(path, value string) string { return list(item(packed(path, 2)), item(value)) }
func ext(path, ref string) string    { return list(item(packed(path, 0)), ref) }

// kid is how a node stands in a branch, and where.
type kid struct {
	way int
	ref string
}

func branch(value string, kids ...kid) string {
	items := make([]string, 17)
	for i := range items {
		items[i] = item("")
	}
	for _, k := range kids {
		items[k.way] = k.ref
	}
	items[16] = item(value)
	return list(items...)
}

// long is a value with which no leaf stands whole.
const long = "a value that is longer than thirty-one bytes"

// by is how a node stands by its hash in another one.
func by(h api.Hash) string { return item(string(h[:])) }

// hashOf is the published hash of a string, of which the first bits count.
func hashOf(bits int, s string) api.Hash {
	h := api.Hash(sha256.Sum256([]byte(s)))
	for i := bits; i < 256; i++ {
		h[i/8] &^= 128 >> (i % 8)
	}
	return h
}

// emptyRoot is the root of the empty trie.
func emptyRoot(bits int) api.Hash { return hashOf(bits, "\x80") }

// rising is hashes by their bytes, each as often as it stands there.
func rising(hashes []api.Hash) []api.Hash {
	out := slices.Clone(hashes)
	slices.SortFunc(out, func(a, b api.Hash) int { return strings.Compare(string(a[:]), string(b[:])) })
	return out
}

// The model is the chapter written down a second time, with the published hash instead of a book: rows and lists are looked
// through from end to end, and no map is needed. What it has read and asked to be deleted, it notes.

// markModel is 21.1 over what tell tells; beside its answer stand the hashes that it has read.
func markModel(bits int, tell func(h api.Hash) ([]byte, api.Errno), roots []api.Hash) (told, read []api.Hash, e api.Errno) {
	var row []api.Hash
	behind := func(h api.Hash) {
		if !slices.Contains(row, h) {
			row = append(row, h)
		}
	}
	for _, h := range roots {
		if h != emptyRoot(bits) {
			behind(h)
		}
	}
	for len(read) < len(row) {
		h := row[len(read)]
		read = append(read, h)
		b, e := tell(h)
		if e != 0 {
			return nil, read, e
		}
		below, none := node.Hashes(b)
		if hashOf(bits, string(b)) != h || none != 0 {
			return nil, read, 5
		}
		for _, h := range below {
			behind(h)
		}
	}
	return rising(row), read, 0
}

// outcome is what a sweep answers, and the keys whose deleting it has asked for.
type outcome struct {
	swept api.Swept
	asked []api.Hash
	e     api.Errno
}

// sweepModel is 21.2 over a device and a store of its own.
func sweepModel(bits int, d *media.Device, s *hstore.Store, keep, roots []api.Hash) (out outcome) {
	live, _, e := markModel(bits, s.Node, roots)
	if e != 0 {
		out.e = e
		return out
	}
	keys, e := d.List()
	if e != 0 {
		out.e = e
		return out
	}
	var gone []api.Hash
	for _, key := range keys {
		if slices.Contains(live, key) || slices.Contains(keep, key) {
			continue
		}
		out.asked = append(out.asked, key)
		e := d.Delete(key)
		if e == 0 {
			gone = append(gone, key)
		} else if e != 81 {
			out.e = e
			break
		}
	}
	if len(gone) != 0 {
		s.Forget(gone...)
	}
	if out.e == 0 {
		out.swept = api.Swept{Live: len(live), Deleted: len(gone)}
	}
	return out
}
