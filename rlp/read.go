package rlp

import (
	"bytes"

	"cairn/api"
)

// fault is what the reader gives up with: the place of the item that it could not read, and why.
type fault struct {
	place int
	errno api.Errno
}

// giveUp ends the reading, however many lists it is in.
func giveUp(place int, e api.Errno) { panic(fault{place, e}) }

// faultOf tells the fault that was caught. Any other panic is none of the reader's, and must not pass for an answer.
func faultOf(caught any) fault {
	f, ours := caught.(fault)
	if !ours {
		panic(caught)
	}
	return f
}

// readItem reads the item at a place, in so many lists, within the end of b, and tells where it ends.
func readItem(b []byte, place int, lists int) (Item, int) {
	if place == len(b) {
		giveUp(place, api.ErrShort)
	}
	c := b[place]
	if c < stringBase {
		return Item{Bytes: []byte{c}}, place + 1
	}
	if c >= listBase {
		return readList(b, place, lists)
	}
	begin, end := readHead(b, place, stringBase)
	if standsAlone(b[begin:end]) {
		giveUp(place, api.ErrForm)
	}
	return Item{Bytes: bytes.Clone(b[begin:end])}, end
}

// readList reads the list at a place, in so many lists, and tells where it ends.
func readList(b []byte, place int, lists int) (Item, int) {
	if lists >= api.MaxDepth {
		giveUp(place, api.ErrDeep)
	}
	at, end := readHead(b, place, listBase)
	x := Item{List: true}
	for at < end {
		var y Item
		y, at = readItem(b[:end], at, lists+1)
		x.Items = append(x.Items, y)
	}
	return x, end
}

// readHead reads the head at a place, and tells where what it speaks of begins and ends.
func readHead(b []byte, place int, base byte) (begin, end int) {
	n, begin := int(b[place]-base), place+1
	if n >= leastLong {
		k := n - (leastLong - 1)
		if len(b)-begin < k {
			giveUp(place, api.ErrShort)
		}
		n = readLength(b[begin:begin+k], place)
		begin += k
	}
	if len(b)-begin < n {
		giveUp(place, api.ErrShort)
	}
	return begin, begin + n
}

// readLength tells the length that stands in bytes of its own, in the head at a place.
func readLength(digits []byte, place int) int {
	if digits[0] == 0 {
		giveUp(place, api.ErrForm)
	}
	n := numberOf(digits)
	if n > api.MaxItem {
		giveUp(place, api.ErrLength)
	}
	if n < leastLong {
		giveUp(place, api.ErrForm)
	}
	return int(n)
}
