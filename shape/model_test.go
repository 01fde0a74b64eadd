package shape_test

import (
	"crypto/sha256"
	"fmt"
	"maps"
	"slices"
	"strings"

	"cairn/api"
)

// Nodes are written down here by themselves: an item is a text of its form's bytes, a path and a place a text of hexadecimal digits.

// item is the form of a string of bytes; no length here needs more than two bytes.
func item(s string) string {
	if len(s) == 1 && s[0] < 128 {
		return s
	}
	return head(128, len(s)) + s
}

// list is the form of a list of items.
func list(items ...string) string {
	all := strings.Join(items, "")
	return head(192, len(all)) + all
}

func head(base, size int) string {
	switch {
	case size < 56:
		return string([]byte{byte(base + size)})
	case size < 256:
		return string([]byte{byte(base + 56), byte(size)})
	}
	return string([]byte{byte(base + 57), byte(size / 256), byte(size % 256)})
}

// packed is a path in its bytes.
func packed(path string, flag int) string {
	if len(path)%2 == 1 {
		path = fmt.Sprintf("%x", flag+1) + path
	} else {
		path = fmt.Sprintf("%x0", flag) + path
	}
	return unhex(path)
}

func unhex(text string) string {
	var b []byte
	if _, err := fmt.Sscanf(text, "%x", &b); err != nil && text != "" {
		panic(text)
	}
	return string(b)
}

func leaf(path, value string) string { return list(item(packed(path, 2)), item(value)) }
func ext(path, ref string) string    { return list(item(packed(path, 0)), ref) }

// kids are how nodes stand in a branch, by their digits.
type kids map[byte]string

func branch(value string, below kids) string {
	all := ""
	for _, digit := range []byte("0123456789abcdef") {
		if ref, there := below[digit]; there {
			all += ref
		} else {
			all += item("")
		}
	}
	return list(all, item(value))
}

// hashOf is the published hash of a string, of which the first bits count.
func hashOf(bits int, s string) api.Hash {
	h := api.Hash(sha256.Sum256([]byte(s)))
	for i := bits; i < 256; i++ {
		h[i/8] &^= 128 >> (i % 8)
	}
	return h
}

// byHash is the item by which an encoding stands in another node, however short it is.
func byHash(bits int, encoding string) string {
	h := hashOf(bits, encoding)
	return item(string(h[:]))
}

// blob is a blob whose bytes, and whose key's bytes, can be compared.
type blob struct{ key, data string }

// census is what Count tells.
type census struct{ leaves, extensions, branches, depth int }

// trie is all that is to be seen of a map's trie.
type trie struct {
	root  api.Hash
	blobs []blob // as often as they stand by their hashes, in any order
	census
}

// nodes is what Nodes tells of it.
func (m trie) nodes() []blob {
	once := map[blob]int{}
	for _, b := range m.blobs {
		once[b]++
	}
	return slices.SortedFunc(maps.Keys(once), func(a, b blob) int { return strings.Compare(a.key+a.data, b.key+b.data) })
}

// forks tells the places at which keys part, or at which one ends within another: what any two of them have in common.
func forks(keys []string) map[string]int {
	out := map[string]int{}
	for i, a := range keys {
		for _, b := range keys[:i] {
			same := 0
			for same < min(len(a), len(b)) && a[same] == b[same] {
				same++
			}
			out[a[:same]]++
		}
	}
	return out
}

// model is 14.4 written down a second time, without any cutting: branches stand where two keys part, and each of them and each
// leaf hangs in the next branch ahead of it. They are made from the longest places on, so nobody goes down.
func model(bits int, entries map[string]string) trie {
	if len(entries) == 0 {
		return trie{root: hashOf(bits, "\x80")}
	}
	values := map[string]string{}
	for key, value := range entries {
		values[fmt.Sprintf("%x", key)] = value
	}
	at := forks(slices.Collect(maps.Keys(values)))
	ends := maps.Clone(at)
	for key := range values {
		ends[key]++
	}
	var out trie
	stand := func(encoding string, always bool) string {
		if len(encoding) < 32 && !always {
			return encoding
		}
		h := hashOf(bits, encoding)
		out.blobs = append(out.blobs, blob{string(h[:]), encoding})
		return item(string(h[:]))
	}
	below := map[string]kids{}
	for _, end := range slices.SortedFunc(maps.Keys(ends), func(a, b string) int { return len(b) - len(a) }) {
		place := placeOf(end, at)
		encoding := ""
		switch {
		case at[end] == 0:
			out.leaves++
			encoding = leaf(end[len(place):], values[end])
		default:
			out.branches++
			if encoding = branch(values[end], below[end]); end != place {
				out.extensions++
				encoding = ext(end[len(place):], stand(encoding, false))
			}
		}
		out.depth = max(out.depth, depthOf(end, at))
		ref := stand(encoding, place == "")
		if place == "" {
			out.root = hashOf(bits, encoding)
			continue
		}
		up := place[:len(place)-1]
		if below[up] == nil {
			below[up] = kids{}
		}
		below[up][place[len(up)]] = ref
	}
	return out
}

// placeOf tells where the node stands whose path leads to an end: a digit behind the next branch ahead of it.
func placeOf(end string, at map[string]int) string {
	for i := len(end) - 1; i >= 0; i-- {
		if at[end[:i]] > 0 {
			return end[:i+1]
		}
	}
	return ""
}

// depthOf tells how many nodes lie on the way to an end: the branches at its beginnings, the extensions ahead of them, and
// the leaf, if it is none of these branches.
func depthOf(end string, at map[string]int) int {
	depth := 0
	if at[end] == 0 {
		depth = 1
	}
	for i := range len(end) + 1 {
		if at[end[:i]] > 0 {
			depth++
			if placeOf(end[:i], at) != end[:i] {
				depth++
			}
		}
	}
	return depth
}
