package proc

import (
	"iter"

	"foundling/api"
	"foundling/boot"
	"foundling/small"
	"foundling/sound"
)

// queue: those that wait for the same. The first one and, behind it, the last one stand in words of its holder's; what they wait for stands in each of them.
type queue struct {
	memory
	holder api.Word
	first  int
	cause  api.Word
}

// toRun: those of a priority that wait to run.
func (m memory) toRun(priority int) queue {
	return queue{m, m.special(sound.Schedule), boot.Lists + 2*(priority-1), number(priority)}
}

// atSemaphore: those that wait for a semaphore.
func (m memory) atSemaphore(s api.Word) queue { return queue{m, s, firstAt, s} }

// queueOf: that in which a process waits.
func (m memory) queueOf(p api.Word) queue {
	cause := m.word(p, listAt)
	if n, e := small.Value(cause); e == api.OK {
		return m.toRun(int(n))
	}
	return m.atSemaphore(cause)
}

func (q queue) isEmpty() bool { return !q.isIn(q.word(q.holder, q.first)) }

// isIn: is it a process that waits here? Where a chain leads to something else, as in memory that isn't sound, it ends.
func (q queue) isIn(p api.Word) bool { return q.isProcess(p) && q.word(p, listAt) == q.cause }

// each: in their order. A chain may lead back to itself, in memory that isn't sound: it has no more than there are cells.
func (q queue) each() iter.Seq[api.Word] {
	return func(yield func(api.Word) bool) {
		p := q.word(q.holder, q.first)
		for range q.Cells() {
			if !q.isIn(p) || !yield(p) {
				return
			}
			p = q.word(p, nextAt)
		}
	}
}

// add: behind all others.
func (q queue) add(p api.Word) {
	if q.isEmpty() {
		q.Put(q.holder, q.first, p)
	} else {
		q.Put(q.word(q.holder, q.first+1), nextAt, p)
	}
	q.Put(q.holder, q.first+1, p)
	q.Put(p, listAt, q.cause)
}

// take: the first one.
func (q queue) take() (api.Word, bool) {
	p := q.word(q.holder, q.first)
	if !q.remove(p) {
		return 0, false
	}
	return p, true
}

// remove: one of them, wherever it stands.
func (q queue) remove(p api.Word) bool {
	before := q.nothing()
	for x := range q.each() {
		if x == p {
			q.cut(before, p)
			return true
		}
		before = x
	}
	return false
}

// cut: one of them, and the one ahead of it (nil: it is the first).
func (q queue) cut(before, p api.Word) {
	nothing := q.nothing()
	behind := q.word(p, nextAt)
	if before == nothing {
		q.Put(q.holder, q.first, behind)
	} else {
		q.Put(before, nextAt, behind)
	}
	if behind == nothing {
		q.Put(q.holder, q.first+1, before)
	}
	q.Put(p, nextAt, nothing)
	q.Put(p, listAt, nothing)
}
