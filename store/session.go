package store

import (
	"cairn/api"
	"cairn/digest"
	"cairn/hstore"
	"cairn/media"
	"cairn/seal"
)

// session is what every session has: what it works on, the blobs there, and its place in the journal.
type session struct {
	device *media.Device
	book   *digest.Book
	blobs  *hstore.Store
	log    *seal.Log
}

// begin begins a session at what the device's register stands for. The first of its calls refuses a nil device and a nil book, ahead of the cache.
func begin(d *media.Device, book *digest.Book, cache int) (session, api.Errno) {
	blobs, e := hstore.New(d, book, cache)
	if e != api.OK {
		return session{}, e
	}
	log, _, e := seal.Open(d, book)
	if e != api.OK {
		return session{}, e
	}
	return session{device: d, book: book, blobs: blobs, log: log}, api.OK
}

// root tells the root of the committed map.
func (s *session) root() api.Hash {
	return s.log.Head().Root
}
