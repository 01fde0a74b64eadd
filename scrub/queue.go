package scrub

// queue gives out what was added to it, the first first, each thing once, however often it is added: so it keeps what it has given out too.
type queue[T comparable] struct {
	waiting []T
	met     map[T]struct{} // all that was ever added
}

// newQueue makes an empty one.
func newQueue[T comparable]() *queue[T] {
	return &queue[T]{met: make(map[T]struct{})}
}

// add lets things wait behind all others, but those that were added before.
func (q *queue[T]) add(things ...T) {
	for _, x := range things {
		if _, known := q.met[x]; known {
			continue
		}
		q.met[x] = struct{}{}
		q.waiting = append(q.waiting, x)
	}
}

// first tells what has waited longest, and whether anything waits. It waits on: whoever asked may find that it can't be dealt with yet.
func (q *queue[T]) first() (T, bool) {
	if len(q.waiting) == 0 {
		var none T
		return none, false
	}
	return q.waiting[0], true
}

// take takes out what has waited longest.
func (q *queue[T]) take() {
	q.waiting = q.waiting[1:]
}

// taken tells how many things have come out.
func (q *queue[T]) taken() int {
	return len(q.met) - len(q.waiting)
}
