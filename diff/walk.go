package diff

import (
	"bytes"

	"cairn/api"
	"cairn/octet"
)

// ways is the number of nibbles.
const ways = 16

// level is what the two sides have at a place that the walk has entered.
type level struct {
	old, now side
	next     int // the nibble that it goes into next
}

// walk goes over two tries side by side.
type walk struct {
	nodes  nodes
	place  []byte  // nibbles
	levels []level // one for the root's place, and one for each nibble of the place behind it
	told   []api.Delta
}

// fromRoots goes over all that the two sides don't share, each place ahead of those below it.
func (w *walk) fromRoots(old, now side) api.Errno {
	if same(old, now) {
		return api.OK
	}
	e := w.enter(old, now)
places:
	for e == api.OK && len(w.levels) > 0 {
		here := &w.levels[len(w.levels)-1]
		for here.next < ways {
			nibble := byte(here.next)
			here.next++
			old, now := here.old.behind(nibble), here.now.behind(nibble)
			if !same(old, now) {
				w.place = append(w.place, nibble)
				e = w.enter(old, now)
				continue places
			}
		}
		w.leave()
	}
	return e
}

// enter meets the nodes of a place, the old one first, and tells the difference of its values.
func (w *walk) enter(old, now side) api.Errno {
	old, e := w.nodes.meet(old, len(w.place))
	if e != api.OK {
		return e
	}
	now, e = w.nodes.meet(now, len(w.place))
	if e != api.OK {
		return e
	}
	w.levels = append(w.levels, level{old: old, now: now})
	return w.compare(old.value(), now.value())
}

// leave goes up again, to the place with one nibble less.
func (w *walk) leave() {
	w.levels = w.levels[:len(w.levels)-1]
	w.place = w.place[:max(len(w.place), 1)-1]
}

// compare tells the difference of the place's values, if there is one and there is room for it.
func (w *walk) compare(old, now []byte) api.Errno {
	if bytes.Equal(old, now) {
		return api.OK
	}
	if len(w.told) == api.MaxDelta {
		return api.ErrFull
	}
	key, _ := octet.Bytes(w.place) // where a value stands, meet has seen to it that these are whole bytes
	w.told = append(w.told, api.Delta{
		Key: key,
		Old: bytes.Clone(old),
		New: bytes.Clone(now),
		Was: len(old) > 0,
		Is:  len(now) > 0,
	})
	return api.OK
}
