package rlp

import "cairn/api"

// tooLong stands for every size beyond MaxItem, so that no sum of sizes can wrap round.
const tooLong = api.MaxItem + 1

// deeper tells whether an item is deeper than so many lists.
func deeper(x Item, most int) bool {
	if !x.List {
		return false
	}
	if most == 0 {
		return true
	}
	for _, y := range x.Items {
		if deeper(y, most-1) {
			return true
		}
	}
	return false
}

// mayBe tells whether an item is a string without items, or a list without bytes of such items.
func mayBe(x Item) bool {
	if !x.List {
		return len(x.Items) == 0
	}
	if len(x.Bytes) > 0 {
		return false
	}
	for _, y := range x.Items {
		if !mayBe(y) {
			return false
		}
	}
	return true
}

// formSize tells how many bytes the form of an item that may be has.
func formSize(x Item) int {
	if standsAlone(x.Bytes) {
		return 1
	}
	n := len(x.Bytes)
	for _, y := range x.Items {
		n += formSize(y)
		if n > api.MaxItem {
			break
		}
	}
	if n > api.MaxItem {
		return tooLong
	}
	return headSize(n) + n
}

// headSize tells how many bytes the head of a length has.
func headSize(n int) int {
	if n < leastLong {
		return 1
	}
	return 1 + digitCount(uint64(n))
}

// writeItem writes an item's form to the end of room, and tells the room that is left ahead of it.
// It goes from the end on, because how long a list is shows only once its items stand there.
func writeItem(room []byte, x Item) []byte {
	if standsAlone(x.Bytes) {
		return writeEnd(room, x.Bytes...)
	}
	if !x.List {
		return writeHead(writeEnd(room, x.Bytes...), len(x.Bytes), stringBase)
	}
	left := room
	for i := len(x.Items) - 1; i >= 0; i-- {
		left = writeItem(left, x.Items[i])
	}
	return writeHead(left, len(room)-len(left), listBase)
}

// writeHead writes the head of a length to the end of room, and tells the room that is left.
func writeHead(room []byte, n int, base byte) []byte {
	if n < leastLong {
		return writeEnd(room, base+byte(n))
	}
	digits := digitsOf(uint64(n))
	room = writeEnd(room, digits...)
	return writeEnd(room, base+leastLong-1+byte(len(digits)))
}

// writeEnd writes bytes to the end of room, and tells the room that is left.
func writeEnd(room []byte, b ...byte) []byte {
	left := room[:len(room)-len(b)]
	copy(room[len(left):], b)
	return left
}
