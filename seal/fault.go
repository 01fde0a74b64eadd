package seal

import (
	"errors"
	"strconv"

	"cairn/api"
)

// fault is what was found wrong, by its number.
type fault struct {
	number api.Errno
}

// Error tells the number as a text.
func (f fault) Error() string { return "seal: error " + strconv.Itoa(int(f.number)) }

// numberOf tells the number of what was found wrong, if anything was.
func numberOf(err error) api.Errno {
	var f fault
	if errors.As(err, &f) {
		return f.number
	}
	return api.OK
}

// wrong tells what a device's answer shows to be wrong, if it does: a register that has moved on and a log that is shorter than it was shown are one to a session.
func wrong(e api.Errno) error {
	switch e {
	case api.OK:
		return nil
	case api.ErrOld, api.ErrRange:
		return fault{api.ErrStale}
	}
	return fault{e}
}
