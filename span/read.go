package span

import (
	"bytes"
	"math/bits"

	"cairn/api"
	"cairn/digest"
	"cairn/proof"
)

// maker makes a proof out of what a source tells.
type maker struct {
	src       api.Source
	book      *digest.Book
	encodings [][]byte // of the nodes that were read, in the order of the walk
	size      int      // of their forms in the proof's list
}

// read reads a node from the source, and lays it into the proof, if there is room.
func (m *maker) read(h api.Hash, least int) (api.Node, api.Errno) {
	told, e := m.src.Node(h)
	if e != api.OK {
		return api.Node{}, e
	}
	encoding := bytes.Clone(told) // what the source tells is its own
	n, e := looked(m.book, encoding, h, least)
	if e != api.OK {
		return api.Node{}, e
	}
	m.size += formed(len(encoding))
	if formed(m.size) > api.MaxProof {
		return api.Node{}, api.ErrFull
	}
	m.encodings = append(m.encodings, encoding)
	return n, api.OK
}

// formed is the number of bytes that the form of layer 5 has around a list, or a string, of so many. (A string of one byte may be
// its own form; but no node's encoding is so short.)
func formed(size int) int {
	if size < 56 {
		return 1 + size
	}
	return 1 + (bits.Len(uint(size))+7)/8 + size
}

// holder holds a proof against a root.
type holder struct {
	book *digest.Book
	left [][]byte // the proof's strings that have not been read
}

// hold takes a proof's strings in hand.
func hold(book *digest.Book, b []byte) (*holder, api.Errno) {
	strings, e := proof.Unpack(b)
	if e != api.OK {
		return nil, e
	}
	return &holder{book: book, left: strings}, api.OK
}

// read tells the node of a hash: it must be the proof's next string.
func (h *holder) read(hash api.Hash, least int) (api.Node, api.Errno) {
	if len(h.left) == 0 {
		return api.Node{}, api.ErrProof
	}
	encoding := h.left[0]
	h.left = h.left[1:]
	return looked(h.book, encoding, hash, least)
}

// looked tells the node of an encoding that has this hash and at least so many bytes.
func looked(book *digest.Book, encoding []byte, h api.Hash, least int) (api.Node, api.Errno) {
	if book.Hash(encoding) != h || len(encoding) < least {
		return api.Node{}, api.ErrNode
	}
	return decode(encoding)
}
