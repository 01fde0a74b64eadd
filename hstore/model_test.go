package hstore_test

import (
	"bytes"
	"crypto/sha256"
	"fmt"
	"slices"
	"strings"
	"testing"

	"cairn/api"
	"cairn/digest"
	"cairn/hstore"
	"cairn/media"
)

// The model is the chapter written down a second time, over a device of its own to which the same is done, with the published hash instead of a book.

// kept is a blob in the model's cache.
type kept struct {
	hash api.Hash
	blob string
}

// model is what a store should be.
type model struct {
	d     *media.Device
	bits  int
	most  int
	cache []kept // the oldest first
	bad   []api.Hash
}

// hashOf is the published hash of a string, of which the first bits count.
func hashOf(bits int, s string) api.Hash {
	h := api.Hash(sha256.Sum256([]byte(s)))
	for i := bits; i < 256; i++ {
		h[i/8] &^= 128 >> (i % 8)
	}
	return h
}

// blob is whether a string may be a blob.
func blob(s string) bool { return len(s) > 0 && len(s) < 1025 }

func (m *model) right(h api.Hash, s string) bool { return blob(s) && hashOf(m.bits, s) == h }

// at is where a hash stands in the cache, or -1.
func (m *model) at(h api.Hash) int {
	return slices.IndexFunc(m.cache, func(k kept) bool { return k.hash == h })
}

func (m *model) intoCache(h api.Hash, s string) {
	if m.at(h) >= 0 {
		return
	}
	m.cache = append(m.cache, kept{h, s})
	if len(m.cache) > m.most {
		m.cache = m.cache[1:]
	}
}

func (m *model) leaveQuarantine(h api.Hash) {
	m.bad = slices.DeleteFunc(m.bad, func(x api.Hash) bool { return x == h })
}

func (m *model) fresh(h api.Hash) reply {
	b, e := m.d.Get(h)
	if e == api.ErrDown {
		return reply{e: 3}
	}
	if e == api.ErrAbsent || !m.right(h, string(b)) {
		if !slices.Contains(m.bad, h) {
			m.bad = append(m.bad, h)
		}
		return reply{e: 5}
	}
	m.leaveQuarantine(h)
	return reply{blob: string(b)}
}

func (m *model) node(h api.Hash) reply {
	if i := m.at(h); i >= 0 {
		return reply{blob: m.cache[i].blob}
	}
	r := m.fresh(h)
	if r.e == 0 {
		m.intoCache(h, r.blob)
	}
	return r
}

// other is whether the cache has other bytes under a hash.
func (m *model) other(h api.Hash, s string) bool {
	i := m.at(h)
	return i >= 0 && m.cache[i].blob != s
}

func (m *model) put(s string) reply {
	if !blob(s) {
		return reply{e: 2}
	}
	h := hashOf(m.bits, s)
	if m.other(h, s) {
		return reply{e: 4}
	}
	b, e := m.d.Get(h)
	if e == api.ErrDown {
		return reply{e: 3}
	}
	if e != api.OK || string(b) != s {
		if e == api.OK && m.right(h, string(b)) {
			return reply{e: 4}
		}
		if e := m.d.Put(h, []byte(s)); e != api.OK {
			return reply{e: e}
		}
	}
	m.leaveQuarantine(h)
	m.intoCache(h, s)
	return reply{hash: h}
}

func (m *model) mend(s string) reply {
	if !blob(s) {
		return reply{e: 2}
	}
	h := hashOf(m.bits, s)
	if !slices.Contains(m.bad, h) {
		return reply{e: 220}
	}
	if m.other(h, s) {
		return reply{e: 4}
	}
	if e := m.d.Put(h, []byte(s)); e != api.OK {
		return reply{e: e}
	}
	m.leaveQuarantine(h)
	return reply{}
}

func (m *model) forget(hs []api.Hash) reply {
	gone := func(h api.Hash) bool { return len(hs) == 0 || slices.Contains(hs, h) }
	m.cache = slices.DeleteFunc(m.cache, func(k kept) bool { return gone(k.hash) })
	m.bad = slices.DeleteFunc(m.bad, gone)
	return reply{}
}

func (m *model) do(o op) reply {
	switch o.call {
	case callNode:
		return m.node(o.hash)
	case callFresh:
		return m.fresh(o.hash)
	case callPut:
		return m.put(o.blob)
	case callMend:
		return m.mend(o.blob)
	}
	return m.forget(o.hashes)
}

func (m *model) cached() []api.Hash {
	var out []api.Hash
	for _, k := range m.cache {
		out = append(out, k.hash)
	}
	return out
}

func (m *model) quarantine() []api.Hash {
	out := slices.Clone(m.bad)
	slices.SortFunc(out, func(a, b api.Hash) int { return strings.Compare(string(a[:]), string(b[:])) })
	return out
}

// The calls that do something.
const (
	callNode = iota
	callFresh
	callPut
	callMend
	callForget
	calls
)

// op is a call of a store.
type op struct {
	call   int
	hash   api.Hash
	blob   string
	hashes []api.Hash
}

func (o op) String() string {
	names := []string{"Node", "Fresh", "Put", "Mend", "Forget"}
	return fmt.Sprintf("%s{%x %.20q (%d bytes) %d hashes}", names[o.call], o.hash[:2], o.blob, len(o.blob), len(o.hashes))
}

// reply is what a call answers.
type reply struct {
	blob string
	hash api.Hash
	e    api.Errno
}

func (r reply) String() string { return fmt.Sprintf("{%.20q %x error %d}", r.blob, r.hash[:2], r.e) }

func node(h api.Hash) op         { return op{call: callNode, hash: h} }
func fresh(h api.Hash) op        { return op{call: callFresh, hash: h} }
func put(s string) op            { return op{call: callPut, blob: s} }
func mend(s string) op           { return op{call: callMend, blob: s} }
func forget(hs ...api.Hash) op   { return op{call: callForget, hashes: hs} }
func told(s string) reply        { return reply{blob: s} }
func wrote(h api.Hash) reply     { return reply{hash: h} }
func refused(e api.Errno) reply  { return reply{e: e} }
func list(hs ...api.Hash) string { return fmt.Sprintf("%x", hs) }

// ask does an op at a store.
func ask(s *hstore.Store, o op) reply {
	var r reply
	var b []byte
	switch o.call {
	case callNode:
		b, r.e = s.Node(o.hash)
	case callFresh:
		b, r.e = s.Fresh(o.hash)
	case callPut:
		r.hash, r.e = s.Put([]byte(o.blob))
	case callMend:
		r.e = s.Mend([]byte(o.blob))
	default:
		s.Forget(o.hashes...)
	}
	r.blob = string(b)
	return r
}

// rig is a device with its book and the stores over both; and a twin of the device with the stores' models over it, to which the same is done.
type rig struct {
	t       *testing.T
	d, twin *media.Device
	book    *digest.Book
	bits    int
	stores  []*hstore.Store
	models  []*model
	story   []string
}

// lay makes a rig whose stores have caches of these sizes.
func lay(t *testing.T, slots, bits int, caches ...int) *rig {
	t.Helper()
	return layOver(t, api.Media{Slots: slots, Room: 20}, bits, caches...)
}

// layOver makes a rig over what a device keeps.
func layOver(t *testing.T, m api.Media, bits int, caches ...int) *rig {
	t.Helper()
	r := &rig{t: t, bits: bits}
	var e, f, g api.Errno
	r.d, e = media.Load(m)
	r.twin, f = media.Load(m)
	r.book, g = digest.New(bits, 256, make([]byte, 32))
	if e != api.OK || f != api.OK || g != api.OK {
		t.Fatalf("a device, its twin, a book: %d, %d, %d", e, f, g)
	}
	for _, c := range caches {
		r.add(c)
	}
	return r
}

// add makes one more store with its model, and tells its number.
func (r *rig) add(cache int) int {
	r.t.Helper()
	s, e := hstore.New(r.d, r.book, cache)
	if s == nil || e != api.OK {
		r.t.Fatalf("P10.1: New with a cache of %d: %d", cache, e)
	}
	r.stores = append(r.stores, s)
	r.models = append(r.models, &model{d: r.twin, bits: r.bits, most: cache})
	return len(r.stores) - 1
}

func (r *rig) hash(s string) api.Hash { return hashOf(r.bits, s) }

// choose lays the choices for the accesses to come.
func (r *rig) choose(choices ...api.Choice) *rig {
	r.t.Helper()
	if e, f := r.d.Choose(choices...), r.twin.Choose(choices...); e != api.OK || f != api.OK {
		r.t.Fatalf("Choose: %d, %d", e, f)
	}
	r.story = append(r.story, fmt.Sprintf("choices %v", choices))
	return r
}

func (r *rig) up() {
	r.d.Up()
	r.twin.Up()
	r.story = append(r.story, "Up")
}

// raw writes under a key past the stores.
func (r *rig) raw(key api.Hash, s string) {
	r.t.Helper()
	if e, f := r.d.Put(key, []byte(s)), r.twin.Put(key, []byte(s)); e != api.OK || f != api.OK {
		r.t.Fatalf("the device's Put: %d, %d", e, f)
	}
	r.story = append(r.story, fmt.Sprintf("%.20q under %x past the stores", s, key[:2]))
}

// lose deletes what stands under a key past the stores.
func (r *rig) lose(key api.Hash) {
	r.t.Helper()
	if e, f := r.d.Delete(key), r.twin.Delete(key); e != api.OK || f != api.OK {
		r.t.Fatalf("the device's Delete: %d, %d", e, f)
	}
	r.story = append(r.story, fmt.Sprintf("%x deleted past the stores", key[:2]))
}

// most is how many accesses a call may make.
func most(call int) int { return []int{1, 1, 2, 1, 0}[call] }

// at does an op at one of the stores and at its model, and holds the two against each other.
func (r *rig) at(who int, promise string, o op) reply {
	r.t.Helper()
	r.story = append(r.story, fmt.Sprintf("%d: %v", who, o))
	was, down := len(r.d.Accesses()), r.d.Down()
	got, want := ask(r.stores[who], o), r.models[who].do(o)
	if got != want {
		r.t.Fatalf("%s: the answer is %v, not %v, behind %s", promise, got, want, r.tale())
	}
	made := len(r.d.Accesses()) - was
	if made > most(o.call) || o.call == callFresh && made != 1 && !down {
		r.t.Fatalf("P10.12: %d accesses, behind %s", made, r.tale())
	}
	r.look(promise)
	return got
}

// do does an op at the first store.
func (r *rig) do(promise string, o op) reply {
	r.t.Helper()
	return r.at(0, promise, o)
}

// want does an op at the first store, and holds its answer against one that the test names.
func (r *rig) want(promise string, o op, w reply) {
	r.t.Helper()
	if got := r.do(promise, o); got != w {
		r.t.Fatalf("%s: %v answers %v, not %v, behind %s", promise, o, got, w, r.tale())
	}
}

// tale is the end of what was done.
func (r *rig) tale() string { return strings.Join(r.story[max(0, len(r.story)-30):], ", ") }

// look holds all that can be seen of stores and device against models and twin.
func (r *rig) look(promise string) {
	r.t.Helper()
	for i, s := range r.stores {
		if got, want := s.Cached(), r.models[i].cached(); !slices.Equal(got, want) {
			r.t.Fatalf("%s: store %d's cache has %.4x, not %.4x, behind %s", promise, i, got, want, r.tale())
		}
		if got, want := s.Quarantine(), r.models[i].quarantine(); !slices.Equal(got, want) {
			r.t.Fatalf("%s: store %d's quarantine has %.4x, not %.4x, behind %s", promise, i, got, want, r.tale())
		}
	}
	if got, want := r.d.Accesses(), r.twin.Accesses(); !slices.Equal(got, want) {
		r.t.Fatalf("%s, P10.12: the accesses are %v, not %v, behind %s", promise, got, want, r.tale())
	}
	if !sameMedia(r.d.Media(), r.twin.Media()) || r.d.Down() != r.twin.Down() {
		r.t.Fatalf("%s: the device has other things than it should, behind %s", promise, r.tale())
	}
}

// state holds cache and quarantine of the first store against what the test names.
func (r *rig) state(promise string, cached, quarantine string) {
	r.t.Helper()
	if got := list(r.stores[0].Cached()...); got != cached {
		r.t.Errorf("%s: the cache has %s, not %s, behind %s", promise, got, cached, r.tale())
	}
	if got := list(r.stores[0].Quarantine()...); got != quarantine {
		r.t.Errorf("%s: the quarantine has %s, not %s, behind %s", promise, got, quarantine, r.tale())
	}
}

// made tells the kinds of the accesses that a call makes.
func (r *rig) made(call func()) string {
	was := len(r.d.Accesses())
	call()
	out := ""
	for _, a := range r.d.Accesses()[was:] {
		out += []string{"?", "get ", "put ", "delete ", "list "}[a.Kind]
	}
	return out
}

func sameMedia(a, b api.Media) bool {
	sameBlob := func(x, y api.Blob) bool { return x.Key == y.Key && bytes.Equal(x.Data, y.Data) }
	return a.Slots == b.Slots && a.Room == b.Room && a.Reg == b.Reg && bytes.Equal(a.Log, b.Log) && slices.EqualFunc(a.Blobs, b.Blobs, sameBlob)
}

func choice(kind, n int) api.Choice { return api.Choice{Kind: kind, N: n, M: n} }

// honest is so many honest choices with others behind them.
func honest(n int, then ...api.Choice) []api.Choice {
	return append(make([]api.Choice, n), then...)
}

// clashing tells n different short strings that have one hash of so many bits; no is how many sets of them are passed over.
func clashing(bits, n, no int) []string {
	byHash := map[api.Hash][]string{}
	for i := 0; ; i++ {
		s := fmt.Sprintf("%d", i)
		h := hashOf(bits, s)
		byHash[h] = append(byHash[h], s)
		if len(byHash[h]) == n {
			if no == 0 {
				return byHash[h]
			}
			no--
		}
	}
}
