package media

import (
	"bytes"

	"cairn/api"
)

// doing is how an access is done by a choice.
type doing func(d *Device, r request, c api.Choice) answer

// deed is what a choice does to the accesses: to those that tell, that write, that take off, and to the register's.
type deed struct {
	tell  doing // Get, List, Read
	write doing // Put, Append
	take  doing // Delete, Trim, Cut
	hold  doing // Reg, SetReg: the register is trusted, and knows of crashes alone
}

// deeds tells what each choice does.
func deeds() [api.Choices]deed {
	return [api.Choices]deed{
		api.Honest:   {tell: honest, write: honest, take: honest, hold: honest},
		api.Alter:    {tell: alterTold, write: alterWritten, take: honest, hold: honest},
		api.Drop:     {tell: hide, write: pretend, take: pretend, hold: honest},
		api.Replay:   {tell: tellOld, write: writeOld, take: takeOld, hold: honest},
		api.Rollback: {tell: rollBack, write: rollBack, take: rollBack, hold: honest},
		api.Torn:     {tell: crash, write: tear, take: crash, hold: honest},
		api.Crash:    {tell: crash, write: crash, take: crash, hold: crash},
		api.After:    {tell: after, write: after, take: after, hold: after},
	}
}

// to tells what the choice does to an access of this kind.
func (x deed) to(kind int) doing {
	switch kind {
	case api.AccGet, api.AccList, api.AccRead:
		return x.tell
	case api.AccPut, api.AccAppend:
		return x.write
	case api.AccDelete, api.AccTrim, api.AccCut:
		return x.take
	}
	return x.hold
}

// alterTold turns a byte of what is told; keys are one string there.
func alterTold(d *Device, r request, c api.Choice) answer {
	a := honest(d, r, c)
	turn(a.bytes, c)
	if len(a.keys) > 0 {
		turn(a.keys[c.N/len(api.Hash{})%len(a.keys)][:], c)
	}
	return a
}

// alterWritten turns a byte of what is written, on its way.
func alterWritten(d *Device, r request, c api.Choice) answer {
	r.bytes = bytes.Clone(r.bytes)
	turn(r.bytes, c)
	return honest(d, r, c)
}

// turn turns the byte that the choice names, if there is one.
func turn(b []byte, c api.Choice) {
	if len(b) > 0 {
		b[c.N%len(b)] ^= byte(1 + c.M%255)
	}
}

// hide tells that nothing is there.
func hide(_ *Device, r request, _ api.Choice) answer {
	if r.kind == api.AccGet {
		return answer{err: api.ErrAbsent}
	}
	return answer{}
}

// pretend answers as an honest device, and does nothing.
func pretend(d *Device, r request, _ api.Choice) answer {
	return answer{err: d.refusal(r)}
}

// tellOld tells what an earlier time had.
func tellOld(d *Device, r request, c api.Choice) answer {
	switch r.kind {
	case api.AccList:
		return answer{keys: d.keysAt(d.ago(c.N))}
	case api.AccRead:
		return answer{bytes: bytes.Clone(d.logAt(d.ago(c.N)))}
	}
	old, ok := d.version(r.key, c.N)
	return answer{bytes: bytes.Clone(old), err: unless(ok, api.ErrAbsent)}
}

// writeOld stores an old version of a key instead of the new one.
func writeOld(d *Device, r request, c api.Choice) answer {
	if r.kind == api.AccAppend {
		return honest(d, r, c)
	}
	old, ok := d.version(r.key, c.N)
	if !ok {
		return pretend(d, r, c)
	}
	r.bytes = old
	return honest(d, r, c)
}

// takeOld leaves a blob that is to be deleted as it was.
func takeOld(d *Device, r request, c api.Choice) answer {
	if r.kind == api.AccDelete {
		return pretend(d, r, c)
	}
	return honest(d, r, c)
}

// rollBack makes blobs and log what they were at an earlier time, ahead of the access.
func rollBack(d *Device, r request, c api.Choice) answer {
	then := d.ago(c.N)
	for key := range d.versions {
		if old := d.under(key, then); !old.same(d.under(key, d.time())) {
			d.lay(key, old)
		}
	}
	d.log = d.logAt(then)
	return honest(d, r, c)
}

// tear writes a beginning alone, and goes down over it.
func tear(d *Device, r request, c api.Choice) answer {
	if d.refusal(r) == api.OK {
		r.bytes = r.bytes[:c.N%(len(r.bytes)+1)]
		honest(d, r, c)
	}
	return crash(d, r, c)
}

// crash goes down with nothing done.
func crash(d *Device, _ request, _ api.Choice) answer {
	d.down = true
	return answer{err: api.ErrDown}
}

// after goes down over what is done, ahead of its answer.
func after(d *Device, r request, c api.Choice) answer {
	honest(d, r, c)
	return crash(d, r, c)
}
