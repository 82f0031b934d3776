package frame

import (
	"foundling/api"
	"foundling/boot"
	"foundling/heap"
	"foundling/small"
	"foundling/sound"
)

// What a method has, as far as it is asked for here.
const (
	headerAt = iota
	literalsAt
	bytesAt
)

// What a block has.
const (
	homeAt = iota
	startAt
	countAt
	blockWords
)

// memory: a Smalltalk's, and its root. Of other memory what isn't there counts as 0.
type memory struct {
	*heap.Heap
	root api.Word
}

// word: of an object.
func (m memory) word(w api.Word, i int) api.Word {
	x, _ := m.Get(w, i)
	return x
}

// special: a word of the root's.
func (m memory) special(i int) api.Word { return m.word(m.root, i) }

// size: how many words, or bytes, an object has.
func (m memory) size(w api.Word) int {
	d, _ := m.Head(w)
	return d.Size
}

// isOf: is it an object of the class that stands in the root's word i?
func (m memory) isOf(w api.Word, i int) bool {
	d, e := m.Head(w)
	return e == api.OK && d.Class == m.special(i)
}

// isContext: has it words, more than all contexts have, and a method among them?
func (m memory) isContext(w api.Word) bool {
	return m.isOf(w, sound.ContextClass) && m.size(w) > boot.First && m.isOf(m.word(w, boot.Method), sound.MethodClass)
}

// isBlock: are its words a context and two numbers, and no more?
func (m memory) isBlock(w api.Word) bool {
	return m.isOf(w, sound.BlockClass) && m.size(w) == blockWords &&
		m.isContext(m.word(w, homeAt)) && small.Is(m.word(w, startAt)) && small.Is(m.word(w, countAt))
}

// parts: how many slots a method has, and how great a stack it needs.
func (m memory) parts(method api.Word) (slots, stack int, e api.Errno) {
	header, e := small.Value(m.word(method, headerAt))
	if e != api.OK {
		return 0, 0, e
	}
	_, slots, stack, _ = boot.Parts(header)
	return slots, stack, api.OK
}

// number: the word of a count, for which there is one.
func number(n int) api.Word {
	w, _ := small.Of(int64(n))
	return w
}
