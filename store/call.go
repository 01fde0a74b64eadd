package store

import "cairn/api"

// mostAsked is how many entries a scan may be asked for, and how many nodes a scrub.
const mostAsked = 4096

// needs is what a call needs of a store.
type needs int

const (
	nothing needs = iota // it is done at a store that has failed too
	able                 // the store has not failed
	look                 // and the register, looked at, stands where the session does
)

// call does a call, whole, ahead of the next one: what it is handed to do, if nothing refuses it ahead of that.
// own is what the call itself says of its arguments.
func (s *Store) call(n needs, own api.Errno, do func() api.Errno) api.Errno {
	if s == nil {
		return api.ErrHandle
	}
	s.mutex.Lock()
	defer s.mutex.Unlock()
	if s.failed && n != nothing {
		return api.ErrFailed
	}
	e := own
	if e == api.OK && n == look {
		e = s.log.Check()
	}
	if e == api.OK {
		e = do()
	}
	// Where the journal stands is not known any more: an opening alone finds it.
	if e == api.ErrDown || e == api.ErrStale {
		s.failed = true
	}
	return e
}

// unless tells ErrInput, unless all is well.
func unless(well bool) api.Errno {
	if well {
		return api.OK
	}
	return api.ErrInput
}

// keyMayBe tells whether a key may be.
func keyMayBe(key []byte) bool {
	return len(key) <= api.MaxKey
}

// valueMayBe tells whether a value may be.
func valueMayBe(value []byte) bool {
	return len(value) > 0 && len(value) <= api.MaxValue
}

// boundsMayBe tells whether bounds may be.
func boundsMayBe(b api.Bounds) bool {
	return keyMayBe(b.From) && keyMayBe(b.To) && !(b.Open && len(b.To) > 0)
}
