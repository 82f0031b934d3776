package proc

import (
	"foundling/api"
	"foundling/find"
	"foundling/heap"
	"foundling/small"
	"foundling/sound"
)

// What a process has, as far as it is asked for here.
const (
	priorityAt = iota + 1
	nextAt
	listAt
)

// What a semaphore has.
const (
	signalsAt = iota
	firstAt
	lastAt
)

// most: the greatest priority; the least one is 1.
const most = 5

// memory: a Smalltalk's, and its root. Of other memory what isn't there counts as 0.
type memory struct {
	*heap.Heap
	root api.Word
}

// word: of an object.
func (m memory) word(w api.Word, i int) api.Word {
	x, _ := m.Get(w, i)
	return x
}

// special: a word of the root's.
func (m memory) special(i int) api.Word { return m.word(m.root, i) }

func (m memory) nothing() api.Word { return m.special(sound.Nil) }

// isKin: is it an object of the class that stands in the root's word i, or of one below?
func (m memory) isKin(w api.Word, i int) bool {
	return find.Kin(m.Heap, m.root, find.ClassOf(m.Heap, m.root, w), m.special(i))
}

// priority: of a process; 0 of what is none.
func (m memory) priority(p api.Word) int {
	n, e := small.Value(m.word(p, priorityAt))
	if e != api.OK || n < 1 || n > most || !m.isKin(p, sound.ProcessClass) {
		return 0
	}
	return int(n)
}

func (m memory) isProcess(p api.Word) bool { return m.priority(p) > 0 }

// waits: does a process wait, to run or for a semaphore?
func (m memory) waits(p api.Word) bool { return m.word(p, listAt) != m.nothing() }

func (m memory) isSemaphore(s api.Word) bool {
	return small.Is(m.word(s, signalsAt)) && m.isKin(s, sound.SemaphoreClass)
}

// number: the word of a number, of which it is known that there is one.
func number[T int | int64](n T) api.Word {
	w, _ := small.Of(int64(n))
	return w
}
