package audit

import (
	"errors"
	"strconv"

	"cairn/api"
)

// nowhere stands for the place of what no record has.
const nowhere = -1

// number is an error's number, as an error.
type number api.Errno

// Error tells the number as a text.
func (n number) Error() string { return "error " + strconv.Itoa(int(n)) }

// fault is what is wrong with the record of a place.
type fault struct {
	place int
	err   error
}

// Error tells the record's place and what is wrong with it.
func (f fault) Error() string { return "record " + strconv.Itoa(f.place) + ": " + f.err.Error() }

// Unwrap tells what is wrong.
func (f fault) Unwrap() error { return f.err }

// faultAt tells that something is wrong with the record of a place.
func faultAt(place int, e api.Errno) error { return fault{place, number(e)} }

// known are the numbers of all that can be wrong.
var known = [...]api.Errno{
	api.ErrHandle, api.ErrInput, api.ErrMark, api.ErrCut, api.ErrOrder,
	api.ErrRecord, api.ErrMac, api.ErrChain, api.ErrStale, api.ErrReplay,
}

// numberOf tells which of them is wrong, if one is, wherever it is.
func numberOf(err error) api.Errno {
	for _, e := range known {
		if errors.Is(err, number(e)) {
			return e
		}
	}
	return api.OK
}

// placeOf tells the place of the record that has what is wrong.
func placeOf(err error) int {
	var f fault
	if errors.As(err, &f) {
		return f.place
	}
	return nowhere
}
