package intern

import (
	"sort"
	"strings"

	"foundling/api"
	"foundling/head"
	"foundling/heap"
	"foundling/sound"
)

// How many cells an object's head has, and how many bytes of a symbol a cell.
const (
	headCells = 2
	cellBytes = 8
)

// memory: a Smalltalk's, and its root. Of other memory what isn't there counts as 0, as an empty text, as a list of nothing.
type memory struct {
	*heap.Heap
	root api.Word
}

// word: of an object.
func (m memory) word(w api.Word, i int) api.Word {
	x, _ := m.Get(w, i)
	return x
}

// special: a word of the root's.
func (m memory) special(i int) api.Word { return m.word(m.root, i) }

// text: the bytes of an object.
func (m memory) text(w api.Word) string {
	b, _ := m.Bytes(w)
	return string(b)
}

// count: of an object's words.
func (m memory) count(w api.Word) int {
	d, _ := m.Head(w)
	if d.Kind == head.Raw {
		return 0
	}
	return d.Size
}

// words: all of an object.
func (m memory) words(w api.Word) []api.Word {
	out := make([]api.Word, m.count(w))
	for i := range out {
		out[i] = m.word(w, i)
	}
	return out
}

// isOf: is it an object of this kind, of the class that stands in the root's word i?
func (m memory) isOf(w api.Word, kind, i int) bool {
	d, e := m.Head(w)
	return e == api.OK && d.Kind == kind && d.Class == m.special(i)
}

// search: where in a list, of which each so manieth word is a symbol and these rise, the first one stands that isn't below a text; is it the text's?
func (m memory) search(list api.Word, step int, s string) (int, bool) {
	at, isThere := sort.Find(m.count(list)/step, func(i int) int {
		return strings.Compare(s, m.text(m.word(list, step*i)))
	})
	return step * at, isThere && m.Has(m.word(list, step*at))
}

// need: how many cells a new symbol takes, and the list that has it.
func (m memory) need(s string) int {
	symbol := headCells + (len(s)+cellBytes-1)/cellBytes
	list := headCells + m.count(m.special(sound.Symbols)) + 1
	return symbol + list
}

// raw: a new object of bytes, of the class that stands in the root's word i.
func (m memory) raw(i int, s string) (api.Word, api.Errno) {
	w, e := m.Alloc(m.special(i), head.Raw, len(s), 0)
	if e != api.OK {
		return 0, e
	}
	for n := range len(s) {
		m.PutByte(w, n, s[n])
	}
	return w, api.OK
}

// list: a new Array.
func (m memory) list(words ...api.Word) (api.Word, api.Errno) {
	w, e := m.Alloc(m.special(sound.ArrayClass), head.Slots, len(words), 0)
	if e != api.OK {
		return 0, e
	}
	for i, x := range words {
		m.Put(w, i, x)
	}
	return w, api.OK
}
