package media

import (
	"bytes"
	"maps"
	"slices"

	"cairn/api"
)

// request is what an access asks for: its kind, and what that kind needs.
type request struct {
	kind  int
	key   api.Hash
	bytes []byte
	n     int
	reg   api.Register
}

// answer is what an access answers: its error, and what its kind tells.
type answer struct {
	bytes []byte
	keys  []api.Hash
	reg   api.Register
	err   api.Errno
}

// Get reads a blob.
func (d *Device) Get(key api.Hash) ([]byte, api.Errno) {
	a := d.access(request{kind: api.AccGet, key: key})
	return a.bytes, a.err
}

// Put writes a blob.
func (d *Device) Put(key api.Hash, data []byte) api.Errno {
	return d.access(request{kind: api.AccPut, key: key, bytes: data}).err
}

// Delete deletes a blob.
func (d *Device) Delete(key api.Hash) api.Errno {
	return d.access(request{kind: api.AccDelete, key: key}).err
}

// List tells all keys, rising.
func (d *Device) List() ([]api.Hash, api.Errno) {
	a := d.access(request{kind: api.AccList})
	return a.keys, a.err
}

// Read reads the log.
func (d *Device) Read() ([]byte, api.Errno) {
	a := d.access(request{kind: api.AccRead})
	return a.bytes, a.err
}

// Append writes bytes behind the log.
func (d *Device) Append(b []byte) api.Errno {
	return d.access(request{kind: api.AccAppend, bytes: b}).err
}

// Trim takes the log's first n bytes off.
func (d *Device) Trim(n int) api.Errno {
	return d.access(request{kind: api.AccTrim, n: n}).err
}

// Cut keeps the log's first n bytes alone.
func (d *Device) Cut(n int) api.Errno {
	return d.access(request{kind: api.AccCut, n: n}).err
}

// Reg reads the register.
func (d *Device) Reg() (api.Register, api.Errno) {
	a := d.access(request{kind: api.AccLoad})
	return a.reg, a.err
}

// SetReg writes the register.
func (d *Device) SetReg(r api.Register) api.Errno {
	return d.access(request{kind: api.AccStore, reg: r}).err
}

// access does what is asked for by the next choice; what is no access takes none, and is not noted.
func (d *Device) access(r request) answer {
	if d == nil {
		return answer{err: api.ErrHandle}
	}
	if d.down {
		return answer{err: api.ErrDown}
	}
	if !mayBe(r) {
		return answer{err: api.ErrInput}
	}
	c := d.next()
	log := d.log
	a := deeds()[c.Kind].to(r.kind)(d, r, c)
	d.settle(log)
	d.accesses = append(d.accesses, api.Access{Kind: r.kind, Choice: c.Kind, Done: a.err == api.OK})
	return a
}

// mayBe tells whether what is asked for may be asked for of any device.
func mayBe(r request) bool {
	switch r.kind {
	case api.AccPut:
		return len(r.bytes) <= api.MaxNode
	case api.AccStore:
		return countMayBe(r.reg.Count)
	}
	return true
}

// next takes the next choice off the list; behind its end all are honest.
func (d *Device) next() api.Choice {
	if len(d.choices) == 0 {
		return api.Choice{Kind: api.Honest}
	}
	c := d.choices[0]
	d.choices = d.choices[1:]
	return c
}

// refusal tells with which error an honest device refuses what is asked for, if it does.
func (d *Device) refusal(r request) api.Errno {
	_, there := d.blobs[r.key]
	switch r.kind {
	case api.AccGet, api.AccDelete:
		return unless(there, api.ErrAbsent)
	case api.AccPut:
		return unless(there || len(d.blobs) < d.slots, api.ErrFull)
	case api.AccAppend:
		return unless(len(d.log)+len(r.bytes) <= d.room, api.ErrFull)
	case api.AccTrim, api.AccCut:
		return unless(r.n >= 0 && r.n <= len(d.log), api.ErrRange)
	case api.AccStore:
		return unless(r.reg.Count > d.reg.Count, api.ErrOld)
	}
	return api.OK
}

// unless tells an error, unless all is well.
func unless(well bool, e api.Errno) api.Errno {
	if well {
		return api.OK
	}
	return e
}

// honest does what is asked for, as an honest device does it. Cut leaves no spare room behind the log: an append would write there over bytes that an earlier time still has.
func honest(d *Device, r request, _ api.Choice) answer {
	if e := d.refusal(r); e != api.OK {
		return answer{err: e}
	}
	switch r.kind {
	case api.AccGet:
		return answer{bytes: bytes.Clone(d.blobs[r.key])}
	case api.AccPut:
		d.store(r.key, r.bytes)
	case api.AccDelete:
		d.lay(r.key, stay{})
	case api.AccList:
		return answer{keys: d.keys()}
	case api.AccRead:
		return answer{bytes: bytes.Clone(d.log)}
	case api.AccAppend:
		d.log = append(d.log, r.bytes...)
	case api.AccTrim:
		d.log = d.log[r.n:]
	case api.AccCut:
		d.log = d.log[:r.n:r.n]
	case api.AccLoad:
		return answer{reg: d.reg}
	case api.AccStore:
		d.reg = r.reg
	}
	return answer{}
}

// keys tells the keys of all blobs, rising.
func (d *Device) keys() []api.Hash {
	return slices.SortedFunc(maps.Keys(d.blobs), compare)
}
