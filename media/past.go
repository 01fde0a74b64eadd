package media

import (
	"bytes"
	"slices"

	"cairn/api"
)

// stay is what stands under a key, a blob or nothing, since so many changes had been made.
type stay struct {
	since int
	data  []byte
	there bool
}

// same tells whether the same stands there by both, whenever it came.
func (s stay) same(o stay) bool {
	return s.there == o.there && bytes.Equal(s.data, o.data)
}

// store puts a copy of data under a key, and makes it a version of it.
func (d *Device) store(key api.Hash, data []byte) {
	data = bytes.Clone(data)
	d.versions[key] = append(d.versions[key], data)
	d.lay(key, stay{data: data, there: true})
}

// lay makes that s stands under a key, as of the change that the access on its way would be.
func (d *Device) lay(key api.Hash, s stay) {
	s.since = d.time() + 1
	d.stays[key] = append(d.stays[key], s)
	d.touched = append(d.touched, key)
	if s.there {
		d.blobs[key] = s.data
	} else {
		delete(d.blobs, key)
	}
}

// settle notes a change, if the access that has just been done has left blobs or log other than it found them.
func (d *Device) settle(log []byte) {
	other := slices.ContainsFunc(d.touched, func(key api.Hash) bool {
		return !d.under(key, d.time()).same(d.under(key, d.time()+1))
	})
	d.touched = nil
	if other || !bytes.Equal(log, d.log) {
		d.logs = append(d.logs, log)
	}
}

// time tells how many changes have been made.
func (d *Device) time() int { return len(d.logs) }

// ago tells the time that is n changes ago, counted round.
func (d *Device) ago(n int) int {
	return d.time() - n%(d.time()+1)
}

// under tells what stood under a key at a time. Of an access that was no change, what it laid is the next change's, and the last of it is what was there already.
func (d *Device) under(key api.Hash, time int) stay {
	all := d.stays[key]
	behind, _ := slices.BinarySearchFunc(all, time+1, func(s stay, t int) int { return s.since - t })
	if behind == 0 {
		return stay{}
	}
	return all[behind-1]
}

// keysAt tells the keys of a time's blobs, rising.
func (d *Device) keysAt(time int) []api.Hash {
	var keys []api.Hash
	for key := range d.stays {
		if d.under(key, time).there {
			keys = append(keys, key)
		}
	}
	slices.SortFunc(keys, compare)
	return keys
}

// logAt tells a time's log; an earlier one without spare room, for what stands behind it there may be a later one's.
func (d *Device) logAt(time int) []byte {
	if time == d.time() {
		return d.log
	}
	return slices.Clip(d.logs[time])
}

// version tells version number n of a key, counted round, and whether the key has any.
func (d *Device) version(key api.Hash, n int) ([]byte, bool) {
	all := d.versions[key]
	if len(all) == 0 {
		return nil, false
	}
	return all[n%len(all)], true
}
