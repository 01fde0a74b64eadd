package store_test

import (
	"bytes"
	"fmt"
	"slices"
	"strings"

	"cairn/api"
	"cairn/octet"
	"cairn/span"
	"cairn/verify"
)

// face is what a store and its model both answer.
type face interface {
	Get(key []byte) ([]byte, bool, api.Errno)
	Scan(b api.Bounds, limit int) ([]api.Entry, bool, api.Errno)
	Prove(key []byte) ([]byte, api.Errno)
	ProveSpan(b api.Bounds) ([]byte, api.Errno)
	Put(key, value []byte) api.Errno
	Delete(key []byte) api.Errno
	Abort() api.Errno
	Commit() (api.Hash, api.Errno)
	Root() (api.Hash, api.Errno)
	Repair(b []byte) api.Errno
	Scrub(n int) (api.Pass, api.Errno)
	Sweep() (api.Swept, api.Errno)
	History() ([]api.Record, api.Errno)
	Report() api.Report
}

// ask is a call. Its answer is a thing that can be compared; right tells whether it is what the map has.
type ask struct {
	name    string
	zero    any // the answer beside an error
	looks   bool
	commits bool
	do      func(h *hand, f face) (any, api.Errno)
	right   func(x *truth, answer any) bool
}

// hand is what is handed in to a call: all of it has spare room that counts nothing.
type hand struct {
	memory [][]byte
	was    []string
}

// in is bytes that are handed in.
func (h *hand) in(s string) []byte {
	b := append([]byte(s), 202, 0, 0, 1, 255, 255, 254, 9, 128, 192)
	h.memory, h.was = append(h.memory, b), append(h.was, string(b))
	return b[:len(s)]
}

// bounds is bounds that are handed in.
func (h *hand) bounds(b api.Bounds) api.Bounds {
	return api.Bounds{From: h.in(string(b.From)), To: h.in(string(b.To)), Open: b.Open}
}

// back looks whether what was handed in is as it was, and tells what is not; it spoils it all.
func (h *hand) back() string {
	wrong := ""
	for i, b := range h.memory {
		if string(b) != h.was[i] {
			wrong = fmt.Sprintf("%.40x is %.40x", h.was[i], b)
		}
		fill(b, 0x66)
	}
	return wrong
}

// fill writes one byte all over bytes and their spare room.
func fill(b []byte, x byte) {
	b = b[:cap(b)]
	for i := range b {
		b[i] = x
	}
}

// out is bytes that were handed out, as a text; they are spoiled.
func out(b []byte) string {
	s := string(b)
	fill(b, 0x77)
	return s
}

// got is what Get answers.
type got struct {
	value string
	found bool
}

// scanned is what Scan answers.
type scanned struct {
	entries string
	more    bool
}

// done is what a call answers that answers an error alone.
type done struct{}

func get(key string) ask {
	return ask{
		name: fmt.Sprintf("Get(%x)", key), zero: got{}, looks: true,
		do: func(h *hand, f face) (any, api.Errno) {
			value, found, e := f.Get(h.in(key))
			return got{out(value), found}, e
		},
		right: func(x *truth, answer any) bool {
			value, found := x.now.entries[key]
			return answer == got{value, found}
		},
	}
}

// shown is entries as a text; what they lie in is spoiled.
func shown(entries []api.Entry) string {
	var all []string
	for i := range entries {
		all = append(all, fmt.Sprintf("%x=%x", entries[i].Key, entries[i].Value))
	}
	for i := range entries {
		fill(entries[i].Key, 0x77)
		fill(entries[i].Value, 0x77)
	}
	clear(entries[:cap(entries)])
	return strings.Join(all, " ")
}

// within is a map's entries within bounds, rising.
func within(entries map[string]string, b api.Bounds) []api.Entry {
	return slices.DeleteFunc(listed(entries), func(x api.Entry) bool { return !octet.Within(x.Key, b) })
}

func boundsText(b api.Bounds) string {
	if b.Open {
		return fmt.Sprintf("%x to %x, open", b.From, b.To)
	}
	return fmt.Sprintf("%x to %x", b.From, b.To)
}

func scan(b api.Bounds, limit int) ask {
	return ask{
		name: fmt.Sprintf("Scan(%s, %d)", boundsText(b), limit), zero: scanned{}, looks: true,
		do: func(h *hand, f face) (any, api.Errno) {
			entries, more, e := f.Scan(h.bounds(b), limit)
			return scanned{shown(entries), more}, e
		},
		right: func(x *truth, answer any) bool {
			all := within(x.now.entries, b)
			some := all[:min(limit, len(all))]
			return answer == scanned{shown(slices.Clone(some)), len(all) > limit}
		},
	}
}

func prove(key string) ask {
	return ask{
		name: fmt.Sprintf("Prove(%x)", key), zero: "", looks: true,
		do: func(h *hand, f face) (any, api.Errno) {
			b, e := f.Prove(h.in(key))
			return out(b), e
		},
		right: func(x *truth, answer any) bool { // W4
			v, found, e := verify.Verify(x.r.plain, x.now.root, []byte(key), []byte(answer.(string)))
			value, is := x.now.entries[key]
			return e == api.OK && found == is && string(v) == value
		},
	}
}

func proveSpan(b api.Bounds) ask {
	return ask{
		name: fmt.Sprintf("ProveSpan(%s)", boundsText(b)), zero: "", looks: true,
		do: func(h *hand, f face) (any, api.Errno) {
			p, e := f.ProveSpan(h.bounds(b))
			return out(p), e
		},
		right: func(x *truth, answer any) bool { // W4
			l, e := span.Verify(x.r.plain, x.now.root, b, []byte(answer.(string)))
			return e == api.OK && shown(l) == shown(within(x.now.entries, b))
		},
	}
}

func lays(key, value string) ask {
	return ask{
		name: fmt.Sprintf("Put(%x, %.8x)", key, value), zero: done{},
		do: func(h *hand, f face) (any, api.Errno) { return done{}, f.Put(h.in(key), h.in(value)) },
	}
}

func deletes(key string) ask {
	return ask{
		name: fmt.Sprintf("Delete(%x)", key), zero: done{},
		do: func(h *hand, f face) (any, api.Errno) { return done{}, f.Delete(h.in(key)) },
	}
}

func abort() ask {
	return ask{
		name: "Abort()", zero: done{},
		do: func(h *hand, f face) (any, api.Errno) { return done{}, f.Abort() },
	}
}

func commit() ask {
	return ask{
		name: "Commit()", zero: api.Hash{}, looks: true, commits: true,
		do: func(h *hand, f face) (any, api.Errno) { return anyOf(f.Commit()) },
	}
}

func anyOf[T any](answer T, e api.Errno) (any, api.Errno) { return answer, e }

func root() ask {
	return ask{
		name: "Root()", zero: api.Hash{}, looks: true,
		do:    func(h *hand, f face) (any, api.Errno) { return anyOf(f.Root()) },
		right: func(x *truth, answer any) bool { return answer == x.now.root },
	}
}

func repair(b string) ask {
	return ask{
		name: fmt.Sprintf("Repair(%.8x)", b), zero: done{}, looks: true,
		do: func(h *hand, f face) (any, api.Errno) { return done{}, f.Repair(h.in(b)) },
	}
}

func scrubs(n int) ask {
	return ask{
		name: fmt.Sprintf("Scrub(%d)", n), zero: api.Pass{}, looks: true,
		do: func(h *hand, f face) (any, api.Errno) { return anyOf(f.Scrub(n)) },
	}
}

func sweeps() ask {
	return ask{
		name: "Sweep()", zero: api.Swept{}, looks: true,
		do: func(h *hand, f face) (any, api.Errno) { return anyOf(f.Sweep()) },
	}
}

// told is records as a text; what they lie in is spoiled.
func told(records []api.Record) string {
	var all []string
	for _, r := range records {
		text := fmt.Sprintf("kind %d count %d seq %d prev %x root %x", r.Kind, r.Count, r.Seq, r.Prev, r.Root)
		for _, c := range r.Changes {
			text += fmt.Sprintf(" [%x %x %v]", c.Key, c.Value, c.Gone)
		}
		all = append(all, text)
	}
	for _, r := range records {
		for _, c := range r.Changes {
			fill(c.Key, 0x77)
			fill(c.Value, 0x77)
		}
		clear(r.Changes[:cap(r.Changes)])
	}
	clear(records[:cap(records)])
	return strings.Join(all, "\n")
}

func history() ask {
	return ask{
		name: "History()", zero: "", looks: true,
		do: func(h *hand, f face) (any, api.Errno) {
			l, e := f.History()
			return told(l), e
		},
		right: func(x *truth, answer any) bool { // the last record is the head's
			lines := strings.Split(answer.(string), "\n")
			return strings.Contains(lines[len(lines)-1], fmt.Sprintf(" seq %d ", x.now.seq)) &&
				strings.Contains(lines[len(lines)-1], fmt.Sprintf(" root %x", x.now.root))
		},
	}
}

func report() ask {
	return ask{
		name: "Report()", zero: reported(nobody{}),
		do: func(h *hand, f face) (any, api.Errno) { return reported(f), api.OK },
	}
}

// nobody has the zero Report.
type nobody struct{ face }

func (nobody) Report() api.Report { return api.Report{} }

// all is bounds that are none.
var all = api.Bounds{Open: true}

func from(a, b string) api.Bounds { return api.Bounds{From: []byte(a), To: []byte(b)} }

func open(a string) api.Bounds { return api.Bounds{From: []byte(a), Open: true} }

// every is each kind of call, with arguments that may be.
func every() []ask {
	return []ask{
		get("\x11\x11"), scan(all, 9), prove("\x11\x11"), proveSpan(all), lays("k", "v"), deletes("k"), abort(), commit(), root(),
		repair(leaf("12", "v")), scrubs(1), sweeps(), history(),
	}
}

// wrong is each kind of wrong arguments that a call itself refuses.
func wrong() []ask {
	far := string(bytes.Repeat([]byte{0x11}, 33))
	return []ask{
		get(far), prove(far), lays(far, "v"), lays("k", ""), lays("k", strings.Repeat("v", 257)), lays(far, ""), deletes(far),
		scan(open(far), 1), scan(from("", far), 1), scan(from(far, far), 1), scan(api.Bounds{To: []byte{0}, Open: true}, 1),
		scan(api.Bounds{To: []byte(far), Open: true}, 1), scan(all, -1), scan(all, 4097), scan(all, -1<<63), scan(all, 1<<63-1),
		scan(open(far), -1), proveSpan(open(far)), proveSpan(from("", far)), proveSpan(from(far, "")),
		proveSpan(api.Bounds{To: []byte{0}, Open: true}), scrubs(0), scrubs(-1), scrubs(4097), scrubs(-1 << 63), scrubs(1<<63 - 1),
	}
}
