package seal

import (
	"cairn/api"
	"cairn/digest"
	"cairn/journal"
	"cairn/media"
)

// desk is what a session works on.
type desk struct {
	device *media.Device
	book   *digest.Book
}

// read tells the log's records, and how long the log is. Why the records end says nothing: the register alone tells which of them count.
func (k desk) read() ([]journal.Entry, int, error) {
	log, e := k.device.Read()
	if e != api.OK {
		return nil, 0, wrong(e)
	}
	entries, _ := journal.Scan(k.book, log)
	return entries, len(log), nil
}

// lastOf tells which one of the records, the last such, a register stands for.
func lastOf(entries []journal.Entry, reg api.Register) (int, error) {
	for at := len(entries) - 1; at >= 0; at-- {
		if register(behind(entries[at])) == reg {
			return at, nil
		}
	}
	return 0, fault{api.ErrStale}
}

// write does the two steps: the record goes to the log, then the register is set to it. It tells the head behind the record.
func (k desk) write(r api.Record, begin func() (int, error)) (api.Head, error) {
	frame, tag, e := journal.Write(k.book, r)
	if e != api.OK {
		return api.Head{}, fault{e}
	}
	if err := k.add(frame, begin); err != nil {
		return api.Head{}, err
	}
	head := headOf(r, tag)
	if e := k.device.SetReg(register(head)); e != api.OK {
		return api.Head{}, wrong(e)
	}
	return head, nil
}

// add appends a frame to the log. Where there is no room, all goes that stands ahead of the place that begin tells, and it is tried once more.
func (k desk) add(frame []byte, begin func() (int, error)) error {
	e := k.device.Append(frame)
	if e != api.ErrFull {
		return wrong(e)
	}
	at, err := begin()
	if err != nil {
		return err
	}
	if at == 0 {
		return fault{api.ErrFull}
	}
	if e := k.device.Trim(at); e != api.OK {
		return wrong(e)
	}
	return wrong(k.device.Append(frame))
}
