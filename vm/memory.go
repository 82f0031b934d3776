package vm

import (
	"foundling/api"
	"foundling/find"
	"foundling/head"
	"foundling/heap"
	"foundling/proc"
	"foundling/small"
	"foundling/sound"
)

// What a method has, as far as it is asked for here.
const (
	headerAt = 0
	holderAt = 4
)

// What a block has, as far as it is asked for here: how many parameters.
const paramsAt = 2

// What a process has, as far as it isn't layer 23's: what it runs; nil, if it is over.
const contextAt = 0

// What a semaphore has, as far as it is asked for here.
const signalsAt = 0

// memory: a Smalltalk's, and its root. Of other memory what isn't there counts as 0.
type memory struct {
	*heap.Heap
	root api.Word
}

// word: of an object.
func (m *memory) word(w api.Word, i int) api.Word {
	x, _ := m.Get(w, i)
	return x
}

// special: a word of the root's.
func (m *memory) special(i int) api.Word { return m.word(m.root, i) }

func (m *memory) nothing() api.Word { return m.special(sound.Nil) }

// scheduled: a word of the schedule's.
func (m *memory) scheduled(i int) api.Word { return m.word(m.special(sound.Schedule), i) }

// classOf: a word's class.
func (m *memory) classOf(w api.Word) api.Word { return find.ClassOf(m.Heap, m.root, w) }

// isOf: is it an object of the class that stands in the root's word i?
func (m *memory) isOf(w api.Word, i int) bool { return m.Has(w) && m.classOf(w) == m.special(i) }

// isKin: is it an object of the class that stands in the root's word i, or of one below?
func (m *memory) isKin(w api.Word, i int) bool {
	return find.Kin(m.Heap, m.root, m.classOf(w), m.special(i))
}

func (m *memory) isSemaphore(w api.Word) bool {
	return small.Is(m.word(w, signalsAt)) && m.isKin(w, sound.SemaphoreClass)
}

// text: the bytes of an object.
func (m *memory) text(w api.Word) string {
	b, _ := m.Bytes(w)
	return string(b)
}

// words: those of an Array, or of what is below.
func (m *memory) words(w api.Word) ([]api.Word, bool) {
	d, _ := m.Head(w)
	if d.Kind != head.Slots || !m.isKin(w, sound.ArrayClass) {
		return nil, false
	}
	out := make([]api.Word, d.Size)
	for i := range out {
		out[i] = m.word(w, i)
	}
	return out, true
}

// made: a new object with these words, of the class that stands in the root's word i.
func (m *memory) made(i, kind int, words ...api.Word) (api.Word, api.Errno) {
	w, e := m.Alloc(m.special(i), kind, len(words), m.nothing())
	if e != api.OK {
		return 0, e
	}
	for n, x := range words {
		m.Put(w, n, x)
	}
	return w, api.OK
}

// active: the process that runs, or nil.
func (m *memory) active() api.Word { return proc.Active(m.Heap, m.root) }

func (m *memory) isOver(p api.Word) bool { return m.word(p, contextAt) == m.nothing() }

// context: that of the active process.
func (m *memory) context() api.Word { return m.word(m.active(), contextAt) }

// goOn: the active process runs another context.
func (m *memory) goOn(context api.Word) { m.Put(m.active(), contextAt, context) }

// giveWay: the active process waits to run, and whoever is first comes.
func (m *memory) giveWay() {
	p := m.active()
	m.setActive(m.nothing())
	proc.Ready(m.Heap, m.root, p)
	m.pull()
}

// pull: whoever is first comes; false: nobody waits to run.
func (m *memory) pull() bool {
	p, isThere := proc.Pull(m.Heap, m.root)
	if isThere {
		m.setActive(p)
	}
	return isThere
}

func (m *memory) setActive(p api.Word) { proc.SetActive(m.Heap, m.root, p) }

// finish: a process is over.
func (m *memory) finish(p api.Word) {
	if p == m.active() {
		m.setActive(m.nothing())
	}
	proc.Remove(m.Heap, m.root, p)
	m.Put(p, contextAt, m.nothing())
}

// signal: a semaphore; who waits for it no more waits to run, and is answered.
func (m *memory) signal(s api.Word) (api.Word, bool) {
	p, isOne := proc.Signal(m.Heap, m.root, s)
	proc.Ready(m.Heap, m.root, p)
	return p, isOne
}
