package store_test

import (
	"crypto/sha256"
	"fmt"
	"slices"
	"strings"

	"cairn/api"
	"cairn/cursor"
	"cairn/digest"
	"cairn/find"
	"cairn/grow"
	"cairn/hstore"
	"cairn/media"
	"cairn/proof"
	"cairn/scrub"
	"cairn/seal"
	"cairn/span"
	"cairn/sweep"
)

// Nodes are written down here by themselves: an item is a text of its form's bytes, a path a text of hexadecimal digits.

// item is the form of a string of bytes.
func item(s string) string {
	if len(s) == 1 && s[0] < 128 {
		return s
	}
	return head(128, len(s)) + s
}

// list is the form of a list of items.
func list(items ...string) string {
	all := strings.Join(items, "")
	return head(192, len(all)) + all
}

func head(base, size int) string {
	switch {
	case size < 56:
		return string([]byte{byte(base + size)})
	case size < 256:
		return string([]byte{byte(base + 56), byte(size)})
	}
	return string([]byte{byte(base + 57), byte(size / 256), byte(size % 256)})
}

// packed is a path in its bytes.
func packed(path string, flag int) string {
	if len(path)%2 == 1 {
		path = fmt.Sprintf("%x", flag+1) + path
	} else {
		path = fmt.Sprintf("%x0", flag) + path
	}
	return unhex(path)
}

func unhex(text string) string {
	var b []byte
	if _, err := fmt.Sscanf(text, "%x", &b); err != nil && text != "" {
		panic(text)
	}
	return string(b)
}

func leaf(path, value string) string { return list(item(packed(path, 2)), item(value)) }
func ext(path, ref string) string    { return list(item(packed(path, 0)), ref) }

// kid is how a node stands in a branch, and where.
type kid struct {
	way int
	ref string
}

func branch(value string, kids ...kid) string {
	items := make([]string, 17)
	for i := range items {
		items[i] = item("")
	}
	for _, k := range kids {
		items[k.way] = k.ref
	}
	items[16] = item(value)
	return list(items...)
}

// by is how a node stands by its hash in another one, in a book of all bits.
func by(encoding string) string {
	h := hashOf(256, encoding)
	return item(string(h[:]))
}

// hashOf is the published hash of a string, of which the first bits count.
func hashOf(bits int, s string) api.Hash {
	h := api.Hash(sha256.Sum256([]byte(s)))
	for i := bits; i < 256; i++ {
		h[i/8] &^= 128 >> (i % 8)
	}
	return h
}

// emptyRoot is the root of the empty trie.
func emptyRoot(bits int) api.Hash { return hashOf(bits, "\x80") }

// rising is hashes by their bytes, each once.
func rising(hashes []api.Hash) []api.Hash {
	out := slices.Clone(hashes)
	slices.SortFunc(out, func(a, b api.Hash) int { return strings.Compare(string(a[:]), string(b[:])) })
	return slices.Compact(out)
}

// The model is the chapter written down a second time, over a device and a book of its own to which the same is done: line by line,
// and a call ends at the first thing that is wrong.

// The errors, by their numbers.
const (
	wrongHandle = 1
	wrongInput  = 2
	wrongDown   = 3
	wrongFull   = 6
	wrongFailed = 7
	wrongStale  = 200
	wrongBatch  = 230
)

// stop is the error that ends a call of the model.
type stop api.Errno

// must ends the call, if there is an error.
func must(e api.Errno) {
	if e != 0 {
		panic(stop(e))
	}
}

// wants ends the call with an error, unless all is well.
func wants(well bool, e api.Errno) {
	if !well {
		must(e)
	}
}

// ended runs a call, and tells the error that has ended it.
func ended(call func()) (e api.Errno) {
	defer func() {
		switch x := recover().(type) {
		case nil:
		case stop:
			e = api.Errno(x)
		default:
			panic(x)
		}
	}()
	call()
	return 0
}

// model is what a store should be.
type model struct {
	d      *media.Device
	bk     *digest.Book
	st     *hstore.Store
	log    *seal.Log
	head   api.Head
	batch  []api.Change
	tour   *scrub.Scrub
	failed bool
}

// opened is 23.1.
func opened(d *media.Device, bk *digest.Book, cache int) (*model, api.Errno) {
	m := &model{d: d, bk: bk}
	e := ended(func() {
		var e api.Errno
		wants(d != nil && bk != nil, wrongHandle)
		m.st, e = hstore.New(d, bk, cache)
		must(e)
		m.log, m.head, e = seal.Open(d, bk)
		must(e)
	})
	return m, e
}

// does is a call of a store that may have failed: 23.2 and 23.3.
func (m *model) does(call func()) api.Errno {
	if m.failed {
		return wrongFailed
	}
	e := ended(call)
	m.failed = e == wrongDown || e == wrongStale
	return e
}

// look is the look.
func (m *model) look() { must(m.log.Check()) }

func short(b []byte) bool { return len(b) < 33 }

func rightBounds(b api.Bounds) bool {
	return short(b.From) && short(b.To) && (len(b.To) == 0 || !b.Open)
}

// Get is 23.4.
func (m *model) Get(key []byte) (value []byte, found bool, e api.Errno) {
	e = m.does(func() {
		wants(short(key), wrongInput)
		m.look()
		value, found, e = find.Get(m.st, m.bk, m.head.Root, key)
		must(e)
	})
	return value, found, e
}

// Scan is 23.5.
func (m *model) Scan(b api.Bounds, limit int) (entries []api.Entry, more bool, e api.Errno) {
	e = m.does(func() {
		wants(rightBounds(b), wrongInput)
		wants(limit > -1 && limit < 4097, wrongInput)
		m.look()
		entries, more, e = cursor.Scan(m.st, m.bk, m.head.Root, b, limit)
		must(e)
	})
	return entries, more, e
}

// Prove is 23.6.
func (m *model) Prove(key []byte) (b []byte, e api.Errno) {
	e = m.does(func() {
		wants(short(key), wrongInput)
		m.look()
		b, e = proof.Prove(m.st, m.bk, m.head.Root, key)
		must(e)
	})
	return b, e
}

// ProveSpan is 23.6.
func (m *model) ProveSpan(b api.Bounds) (p []byte, e api.Errno) {
	e = m.does(func() {
		wants(rightBounds(b), wrongInput)
		m.look()
		p, e = span.Prove(m.st, m.bk, m.head.Root, b)
		must(e)
	})
	return p, e
}

// Put is 23.7.
func (m *model) Put(key, value []byte) api.Errno {
	return m.does(func() {
		wants(short(key) && len(value) > 0 && len(value) < 257, wrongInput)
		wants(len(m.batch) < 32, wrongBatch)
		m.batch = append(m.batch, put(string(key), string(value)))
	})
}

// Delete is 23.7.
func (m *model) Delete(key []byte) api.Errno {
	return m.does(func() {
		wants(short(key), wrongInput)
		wants(len(m.batch) < 32, wrongBatch)
		m.batch = append(m.batch, gone(string(key)))
	})
}

// Abort is 23.7.
func (m *model) Abort() api.Errno {
	return m.does(func() { m.batch = nil })
}

// Commit is 23.8.
func (m *model) Commit() (root api.Hash, e api.Errno) {
	e = m.does(func() {
		m.look()
		stage, e := grow.New(m.st, m.bk)
		must(e)
		r, e := stage.Apply(m.head.Root, m.batch)
		must(e)
		staged, e := stage.Reach(r)
		must(e)
		m.write(staged)
		h, e := m.log.Commit(r, m.batch)
		must(e)
		m.head, m.batch, m.tour, root = h, nil, nil, r
	})
	return root, e
}

// write is 23.8's second step: as long as no sweep has been made, a node that is refused is met again.
func (m *model) write(staged []api.Blob) {
	sweeps := 1
	for i := 0; i < len(staged); {
		_, e := m.st.Put(staged[i].Data)
		if e == wrongFull && sweeps > 0 {
			sweeps--
			var keep []api.Hash
			for _, b := range staged {
				keep = append(keep, b.Key)
			}
			_, e := sweep.Sweep(m.d, m.st, m.bk, keep, m.head.Root)
			must(e)
			continue
		}
		must(e)
		i++
	}
}

// Root is 23.9.
func (m *model) Root() (root api.Hash, e api.Errno) {
	e = m.does(func() {
		m.look()
		root = m.head.Root
	})
	return root, e
}

// History is 23.9.
func (m *model) History() (records []api.Record, e api.Errno) {
	e = m.does(func() {
		m.look()
		records, e = m.log.History()
		must(e)
	})
	return records, e
}

// Repair is 23.10.
func (m *model) Repair(b []byte) api.Errno {
	return m.does(func() {
		m.look()
		must(scrub.Repair(m.st, b))
	})
}

// Scrub is 23.10.
func (m *model) Scrub(n int) (pass api.Pass, e api.Errno) {
	e = m.does(func() {
		wants(n > 0 && n < 4097, wrongInput)
		m.look()
		if m.tour.Pass().Done || m.tour == nil {
			m.tour, e = scrub.New(m.st, m.bk, m.head.Root)
			must(e)
		}
		pass, e = m.tour.Step(n)
		must(e)
	})
	return pass, e
}

// Sweep is 23.10.
func (m *model) Sweep() (swept api.Swept, e api.Errno) {
	e = m.does(func() {
		m.look()
		swept, e = sweep.Sweep(m.d, m.st, m.bk, nil, m.head.Root)
		must(e)
	})
	return swept, e
}

// Report is 23.11.
func (m *model) Report() api.Report {
	return api.Report{Head: m.head, Failed: m.failed, Quarantine: m.st.Quarantine(), Staged: len(m.batch), Cached: len(m.st.Cached())}
}
