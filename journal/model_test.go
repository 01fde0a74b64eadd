package journal_test

import (
	"bytes"
	"crypto/hmac"
	"crypto/sha256"
	"math/big"

	"cairn/api"
)

// The model: the chapter written down a second time, over texts. What a record says is put together from pieces that each know
// their own form, and is read again from its first byte on by a reader that refuses at once; codes are the library's.

const (
	greatestCount  = 1 << 40
	greatestKey    = 32
	greatestValue  = 256
	greatestBatch  = 32
	greatestRecord = 16384
)

// number tells a number's bytes, the highest first.
func number(n int64) string { return string(big.NewInt(n).Bytes()) }

// headed tells bytes with their head ahead of them, by rlp.
func headed(base byte, s string) string {
	if len(s) <= 55 {
		return string([]byte{base + byte(len(s))}) + s
	}
	length := number(int64(len(s)))
	return string([]byte{base + 55 + byte(len(length))}) + length + s
}

// str tells the form of a string.
func str(s string) string {
	if len(s) == 1 && s[0] <= 127 {
		return s
	}
	return headed(128, s)
}

// list tells the form of the list of some forms.
func list(forms ...string) string {
	var all string
	for _, f := range forms {
		all += f
	}
	return headed(192, all)
}

// wantMayBe tells whether a record may be: P19.1.
func wantMayBe(r api.Record) bool {
	switch r.Kind {
	case 1:
		if len(r.Changes) > 0 || r.Seq < 0 {
			return false
		}
	case 2:
		if len(r.Changes) > greatestBatch || r.Seq <= 0 {
			return false
		}
	default:
		return false
	}
	if r.Count <= 0 || r.Count > greatestCount || r.Seq > r.Count {
		return false
	}
	for _, c := range r.Changes {
		switch {
		case len(c.Key) > greatestKey:
			return false
		case c.Gone && len(c.Value) > 0:
			return false
		case !c.Gone && (len(c.Value) < 1 || len(c.Value) > greatestValue):
			return false
		}
	}
	return true
}

// wantForm tells the form of the six items of a record, be it one that may be or not (its numbers are not below 0).
func wantForm(r api.Record) string {
	var changes []string
	for _, c := range r.Changes {
		forms := []string{str(string(c.Key))}
		if !c.Gone {
			forms = append(forms, str(string(c.Value)))
		}
		changes = append(changes, list(forms...))
	}
	return list(str(number(int64(r.Kind))), str(number(r.Count)), str(number(r.Seq)), str(string(r.Prev[:])), str(string(r.Root[:])), list(changes...))
}

// wantBody tells a record's body, and the error: P19.2.
func wantBody(r api.Record) (string, api.Errno) {
	if !wantMayBe(r) {
		return "", 2
	}
	return wantForm(r), 0
}

// reader reads forms from the beginning of a text; behind the first thing that is wrong, all is.
type reader struct {
	left  string
	wrong bool
}

// take takes so many bytes.
func (in *reader) take(n int) string {
	if in.wrong || n > len(in.left) {
		in.wrong = true
		return ""
	}
	s := in.left[:n]
	in.left = in.left[n:]
	return s
}

// item takes what the next form speaks of: a list's, if a list is asked for, else a string's.
func (in *reader) item(asList bool) string {
	first := in.take(1)
	if in.wrong || (first[0] >= 192) != asList {
		in.wrong = true
		return ""
	}
	if first[0] < 128 {
		return first
	}
	long := int(first[0]) - 128
	if asList {
		long -= 64
	}
	if long > 55 {
		digits := in.take(long - 55)
		if in.wrong || digits[0] == 0 || len(digits) > 3 {
			in.wrong = true
			return ""
		}
		long = int(new(big.Int).SetBytes([]byte(digits)).Int64())
		in.wrong = long <= 55
	}
	s := in.take(long)
	if !asList && len(s) == 1 && s[0] < 128 {
		in.wrong = true
	}
	return s
}

// number takes a number.
func (in *reader) number() int64 {
	s := in.item(false)
	n := new(big.Int).SetBytes([]byte(s))
	if len(s) > 0 && s[0] == 0 || !n.IsInt64() {
		in.wrong = true
	}
	if in.wrong {
		return 0
	}
	return n.Int64()
}

// hash takes 32 bytes.
func (in *reader) hash() (h api.Hash) {
	s := in.item(false)
	in.wrong = in.wrong || len(s) != 32
	copy(h[:], s)
	return h
}

// change takes a change.
func (in *reader) change() api.Change {
	inner := reader{left: in.item(true), wrong: in.wrong}
	c := api.Change{Key: []byte(inner.item(false))}
	if inner.left == "" {
		c.Gone = true
	} else {
		c.Value = []byte(inner.item(false))
	}
	in.wrong = in.wrong || inner.wrong || inner.left != ""
	return c
}

// wantRecord tells the record of a body, and whether it is one that may be.
func wantRecord(body string) (api.Record, bool) {
	if len(body) > 1<<20 {
		return api.Record{}, false
	}
	outer := reader{left: body}
	in := reader{left: outer.item(true), wrong: outer.wrong || outer.left != ""}
	var r api.Record
	kind := in.number()
	r.Kind = int(kind)
	r.Count, r.Seq, r.Prev, r.Root = in.number(), in.number(), in.hash(), in.hash()
	changes := reader{left: in.item(true), wrong: in.wrong || in.left != ""}
	for !changes.wrong && changes.left != "" {
		r.Changes = append(r.Changes, changes.change())
	}
	if changes.wrong || kind > 2 || !wantMayBe(r) {
		return api.Record{}, false
	}
	return r, true
}

// wantCode tells the code of a body, of which so many bits count.
func wantCode(bits int, secret, body string) (code api.Hash) {
	m := hmac.New(sha256.New, []byte(secret))
	m.Write([]byte(body))
	for i, c := range m.Sum(nil) {
		for bit := range 8 {
			if i*8+bit < bits {
				code[i] |= c & (128 >> bit)
			}
		}
	}
	return code
}

// coded tells a body with its code behind it.
func (s *shelf) coded(body string) string {
	code := wantCode(s.bits, s.secret, body)
	return body + string(code[:])
}

// wantRead tells the record of a payload, its code, and the error: P19.4.
func (s *shelf) wantRead(payload string) (api.Record, api.Hash, api.Errno) {
	if len(payload) < 32 {
		return api.Record{}, api.Hash{}, 190
	}
	body := payload[:len(payload)-32]
	r, is := wantRecord(body)
	if !is {
		return api.Record{}, api.Hash{}, 190
	}
	if s.coded(body) != payload {
		return api.Record{}, api.Hash{}, 191
	}
	return r, wantCode(s.bits, s.secret, body), 0
}

// framed tells a payload's frame: P9.1.
func framed(payload string) string {
	n := len(payload)
	length := []byte{byte(n / 65536), byte(n / 256 % 256), byte(n % 256)}
	out := append([]byte{202}, length...)
	for _, c := range length {
		out = append(out, 255-c)
	}
	return string(out) + payload
}

// wantFirst tells the payload of a log's first frame, and the error: P9.3.
func wantFirst(log string) (string, api.Errno) {
	switch {
	case log == "":
		return "", 91
	case log[0] != 202:
		return "", 90
	case len(log) < 7:
		return "", 91
	}
	n := int(log[1])*65536 + int(log[2])*256 + int(log[3])
	if n > greatestRecord || framed(string(make([]byte, n)))[:7] != log[:7] {
		return "", 90
	}
	if len(log) < 7+n {
		return "", 91
	}
	return log[7:][:n], 0
}

// found is an entry as the model tells it.
type found struct {
	record     string
	tag        api.Hash
	begin, end int
}

// wantScan tells the entries of a log, and the error: P19.5.
func (s *shelf) wantScan(log string) ([]found, api.Errno) {
	var out []found
	for left := log; left != ""; {
		payload, e := wantFirst(left)
		if e != 0 {
			return out, e
		}
		r, code, e := s.wantRead(payload)
		if e != 0 {
			return out, e
		}
		begin := len(log) - len(left)
		left = left[7+len(payload):]
		out = append(out, found{show(r), code, begin, len(log) - len(left)})
	}
	return out, 0
}

// wantFollows tells whether a record follows a head: P19.6, by numbers that have no end.
func wantFollows(h api.Head, r api.Record) bool {
	step := func(from, to int64) string {
		return new(big.Int).Sub(big.NewInt(to), big.NewInt(from)).String()
	}
	if step(h.Count, r.Count) != "1" || !bytes.Equal(r.Prev[:], h.Tag[:]) {
		return false
	}
	switch r.Kind {
	case 1:
		return step(h.Seq, r.Seq) == "0" && bytes.Equal(r.Root[:], h.Root[:])
	case 2:
		return step(h.Seq, r.Seq) == "1"
	}
	return false
}
