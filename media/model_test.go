package media_test

import (
	"bytes"
	"fmt"
	"maps"
	"slices"
	"sort"
	"strings"
	"testing"

	"cairn/api"
	"cairn/media"
)

// The model is the chapter written down a second time: every time is kept whole, as strings, and each choice is told access by access.

// moment is how blobs and log are at one time.
type moment struct {
	blobs map[api.Hash]string
	log   string
}

func (m moment) copy() moment { return moment{maps.Clone(m.blobs), m.log} }

func (m moment) same(o moment) bool { return m.log == o.log && maps.Equal(m.blobs, o.blobs) }

func (m moment) keys() []api.Hash {
	var out []api.Hash
	for k := range m.blobs {
		out = append(out, k)
	}
	sort.Slice(out, func(i, j int) bool { return string(out[i][:]) < string(out[j][:]) })
	return out
}

// model is what a device should be.
type model struct {
	slots, room int
	now         moment
	reg         api.Register
	down        bool
	choices     []api.Choice
	accesses    []api.Access
	versions    map[api.Hash][]string
	ahead       []moment // how it was ahead of each change
}

func newModel(m api.Media, choices []api.Choice) *model {
	x := &model{slots: m.Slots, room: m.Room, reg: m.Reg, choices: slices.Clone(choices), versions: map[api.Hash][]string{}}
	x.now = moment{map[api.Hash]string{}, string(m.Log)}
	for _, b := range m.Blobs {
		x.now.blobs[b.Key] = string(b.Data)
		x.versions[b.Key] = []string{string(b.Data)}
	}
	return x
}

// op is a call of one of the ten accesses.
type op struct {
	kind int
	key  api.Hash
	data string
	n    int
	reg  api.Register
}

func (o op) String() string {
	names := []string{"?", "Get", "Put", "Delete", "List", "Read", "Append", "Trim", "Cut", "Reg", "SetReg"}
	return fmt.Sprintf("%s{key %x data %.40q n %d reg %d}", names[o.kind], o.key[:2], o.data, o.n, o.reg.Count)
}

// reply is what one of the ten answers.
type reply struct {
	bytes string
	keys  string // one behind the other
	reg   api.Register
	e     api.Errno
}

func (r reply) String() string {
	return fmt.Sprintf("{bytes %.40q keys %.80x reg %d %x error %d}", r.bytes, r.keys, r.reg.Count, r.reg.Tag[:2], r.e)
}

func joined(keys []api.Hash) string {
	var b strings.Builder
	for _, k := range keys {
		b.Write(k[:])
	}
	return b.String()
}

// ask does an op at a device.
func ask(d *media.Device, o op) reply {
	var r reply
	var b []byte
	var keys []api.Hash
	switch o.kind {
	case api.AccGet:
		b, r.e = d.Get(o.key)
	case api.AccPut:
		r.e = d.Put(o.key, []byte(o.data))
	case api.AccDelete:
		r.e = d.Delete(o.key)
	case api.AccList:
		keys, r.e = d.List()
	case api.AccRead:
		b, r.e = d.Read()
	case api.AccAppend:
		r.e = d.Append([]byte(o.data))
	case api.AccTrim:
		r.e = d.Trim(o.n)
	case api.AccCut:
		r.e = d.Cut(o.n)
	case api.AccLoad:
		r.reg, r.e = d.Reg()
	case api.AccStore:
		r.e = d.SetReg(o.reg)
	}
	r.bytes, r.keys = string(b), joined(keys)
	return r
}

// do is what an op should answer, and what it should do.
func (m *model) do(o op) reply {
	if m.down {
		return reply{e: 3}
	}
	if o.kind == api.AccPut && len(o.data) > 1024 || o.kind == api.AccStore && (o.reg.Count < 1 || o.reg.Count > 1<<40) {
		return reply{e: 2}
	}
	var c api.Choice
	if len(m.choices) > 0 {
		c, m.choices = m.choices[0], m.choices[1:]
	}
	was := m.now.copy()
	r := m.by(c, o)
	if !was.same(m.now) {
		m.ahead = append(m.ahead, was)
	}
	m.accesses = append(m.accesses, api.Access{Kind: o.kind, Choice: c.Kind, Done: r.e == 0})
	return r
}

// ago is how it was n mod (changes + 1) changes ago.
func (m *model) ago(n int) moment {
	k := n % (len(m.ahead) + 1)
	if k == 0 {
		return m.now.copy()
	}
	return m.ahead[len(m.ahead)-k].copy()
}

func (m *model) crash() reply {
	m.down = true
	return reply{e: 3}
}

// refuses is what honest would answer, with nothing done.
func (m *model) refuses(o op) api.Errno {
	trial := *m
	trial.now = m.now.copy()
	trial.versions = maps.Clone(m.versions)
	return trial.honest(o).e
}

func (m *model) honest(o op) reply {
	blob, there := m.now.blobs[o.key]
	switch o.kind {
	case api.AccGet:
		if !there {
			return reply{e: 81}
		}
		return reply{bytes: blob}
	case api.AccPut:
		if !there && len(m.now.blobs) == m.slots {
			return reply{e: 6}
		}
		m.now.blobs[o.key] = o.data
		m.versions[o.key] = append(slices.Clone(m.versions[o.key]), o.data)
	case api.AccDelete:
		if !there {
			return reply{e: 81}
		}
		delete(m.now.blobs, o.key)
	case api.AccList:
		return reply{keys: joined(m.now.keys())}
	case api.AccRead:
		return reply{bytes: m.now.log}
	case api.AccAppend:
		if len(m.now.log+o.data) > m.room {
			return reply{e: 6}
		}
		m.now.log += o.data
	case api.AccTrim, api.AccCut:
		if o.n < 0 || o.n > len(m.now.log) {
			return reply{e: 83}
		}
		if o.kind == api.AccTrim {
			m.now.log = m.now.log[o.n:]
		} else {
			m.now.log = m.now.log[:o.n]
		}
	case api.AccLoad:
		return reply{reg: m.reg}
	case api.AccStore:
		if o.reg.Count <= m.reg.Count {
			return reply{e: 82}
		}
		m.reg = o.reg
	}
	return reply{}
}

// turned is s with the byte that a choice of Alter names turned.
func turned(s string, c api.Choice) string {
	b := []byte(s)
	if len(b) > 0 {
		b[c.N%len(b)] ^= byte(c.M%255 + 1)
	}
	return string(b)
}

func (m *model) by(c api.Choice, o op) reply {
	isReg := o.kind == api.AccLoad || o.kind == api.AccStore
	writes := o.kind == api.AccPut || o.kind == api.AccAppend
	switch {
	case c.Kind == api.Crash:
		return m.crash()
	case c.Kind == api.After:
		m.honest(o)
		return m.crash()
	case isReg || c.Kind == api.Honest:
		return m.honest(o)
	case c.Kind == api.Alter && writes:
		o.data = turned(o.data, c)
		return m.honest(o)
	case c.Kind == api.Alter:
		r := m.honest(o)
		r.bytes, r.keys = turned(r.bytes, c), turned(r.keys, c)
		return r
	case c.Kind == api.Drop:
		return m.drop(o)
	case c.Kind == api.Replay:
		return m.replay(c, o)
	case c.Kind == api.Rollback:
		m.now = m.ago(c.N)
		return m.honest(o)
	}
	if writes && m.refuses(o) == 0 { // Torn
		o.data = o.data[:c.N%(len(o.data)+1)]
		m.honest(o)
	}
	return m.crash()
}

func (m *model) drop(o op) reply {
	switch o.kind {
	case api.AccGet:
		return reply{e: 81}
	case api.AccList, api.AccRead:
		return reply{}
	}
	return reply{e: m.refuses(o)}
}

func (m *model) replay(c api.Choice, o op) reply {
	old := m.versions[o.key]
	switch o.kind {
	case api.AccGet:
		if len(old) == 0 {
			return reply{e: 81}
		}
		return reply{bytes: old[c.N%len(old)]}
	case api.AccList:
		return reply{keys: joined(m.ago(c.N).keys())}
	case api.AccRead:
		return reply{bytes: m.ago(c.N).log}
	case api.AccPut:
		if len(old) == 0 {
			return m.drop(o)
		}
		o.data = old[c.N%len(old)]
		return m.honest(o)
	case api.AccDelete:
		return m.drop(o)
	}
	return m.honest(o)
}

// media is all that the model keeps.
func (m *model) media() api.Media {
	out := api.Media{Slots: m.slots, Room: m.room, Log: []byte(m.now.log), Reg: m.reg}
	for _, k := range m.now.keys() {
		out.Blobs = append(out.Blobs, api.Blob{Key: k, Data: []byte(m.now.blobs[k])})
	}
	return out
}

func sameMedia(a, b api.Media) bool {
	sameBlob := func(x, y api.Blob) bool { return x.Key == y.Key && bytes.Equal(x.Data, y.Data) }
	return a.Slots == b.Slots && a.Room == b.Room && a.Reg == b.Reg && bytes.Equal(a.Log, b.Log) && slices.EqualFunc(a.Blobs, b.Blobs, sameBlob)
}

// both is a device and its model, to which the same is done.
type both struct {
	t    *testing.T
	d    *media.Device
	m    *model
	told []string // what was done so far
}

func loadBoth(t *testing.T, m api.Media, choices ...api.Choice) *both {
	t.Helper()
	d, e := media.Load(m, choices...)
	if d == nil || e != api.OK {
		t.Fatalf("P8.2: Load answers %d", e)
	}
	return &both{t: t, d: d, m: newModel(m, choices)}
}

func newBoth(t *testing.T, slots, room int, choices ...api.Choice) *both {
	t.Helper()
	d, e := media.New(slots, room, choices...)
	if d == nil || e != api.OK {
		t.Fatalf("P8.1: New answers %d", e)
	}
	return &both{t: t, d: d, m: newModel(api.Media{Slots: slots, Room: room}, choices)}
}

// do does an op at both, and holds the two against each other.
func (b *both) do(promise string, o op) reply {
	b.t.Helper()
	if len(b.m.choices) > 0 {
		b.told = append(b.told, fmt.Sprintf("by %v", b.m.choices[0]))
	}
	b.told = append(b.told, o.String())
	got, want := ask(b.d, o), b.m.do(o)
	if got != want {
		b.t.Fatalf("%s: the answer is %v, not %v, behind %s", promise, got, want, b.story())
	}
	b.look(promise)
	return got
}

// story is the end of what was done.
func (b *both) story() string {
	return strings.Join(b.told[max(0, len(b.told)-30):], ", ")
}

// look holds what can be seen of the two against each other.
func (b *both) look(promise string) {
	b.t.Helper()
	if b.d.Down() != b.m.down {
		b.t.Fatalf("%s: down is %v behind %s", promise, b.d.Down(), b.story())
	}
	if got, want := b.d.Media(), b.m.media(); !sameMedia(got, want) {
		b.t.Fatalf("%s: the device has %.400q, not %.400q, behind %s", promise, fmt.Sprint(got), fmt.Sprint(want), b.story())
	}
	if got := b.d.Accesses(); !slices.Equal(got, b.m.accesses) {
		b.t.Fatalf("P8.3: the accesses are %v, not %v, behind %s", got, b.m.accesses, b.story())
	}
}

func (b *both) choose(choices ...api.Choice) {
	b.t.Helper()
	if e := b.d.Choose(choices...); e != api.OK {
		b.t.Fatalf("P8.6: Choose(%v) answers %d", choices, e)
	}
	b.m.choices = slices.Clone(choices)
}

func (b *both) up() {
	b.told = append(b.told, "Up")
	b.d.Up()
	b.m.down = false
}

// probe asks by Replay for all versions and all times, and for one more each; nothing but the accesses changes by it.
func (b *both) probe(promise string) {
	b.t.Helper()
	b.up()
	left := b.m.choices
	for _, k := range someKeys() {
		for i := range len(b.m.versions[k]) + 1 {
			b.choose(api.Choice{Kind: api.Replay, N: i})
			b.do(promise, op{kind: api.AccGet, key: k})
		}
	}
	for i := range len(b.m.ahead) + 2 {
		b.choose(api.Choice{Kind: api.Replay, N: i}, api.Choice{Kind: api.Replay, N: i})
		b.do(promise, op{kind: api.AccList})
		b.do(promise, op{kind: api.AccRead})
	}
	b.choose(left...)
}

func key(i byte) api.Hash { return api.Hash{i} }

// lastKey is a key that differs from others in its last byte alone.
func lastKey(i byte) api.Hash {
	h := api.Hash{2}
	h[31] = i
	return h
}

// someKeys are those that the tests put blobs under.
func someKeys() []api.Hash {
	return []api.Hash{{}, key(1), key(2), key(3), lastKey(1), lastKey(255), key(128), key(255)}
}

func get(k api.Hash) op           { return op{kind: api.AccGet, key: k} }
func put(k api.Hash, s string) op { return op{kind: api.AccPut, key: k, data: s} }
func drop(k api.Hash) op          { return op{kind: api.AccDelete, key: k} }
func list() op                    { return op{kind: api.AccList} }
func read() op                    { return op{kind: api.AccRead} }
func add(s string) op             { return op{kind: api.AccAppend, data: s} }
func trim(n int) op               { return op{kind: api.AccTrim, n: n} }
func cut(n int) op                { return op{kind: api.AccCut, n: n} }
func reg() op                     { return op{kind: api.AccLoad} }
func set(count int64, tag byte) op {
	return op{kind: api.AccStore, reg: api.Register{Count: count, Tag: key(tag)}}
}

func choice(kind, n, m int) api.Choice { return api.Choice{Kind: kind, N: n, M: m} }

// repeat is one choice so many times.
func repeat(c api.Choice, n int) []api.Choice {
	return slices.Repeat([]api.Choice{c}, n)
}
