package sound

import (
	"bytes"
	"iter"

	"foundling/api"
	"foundling/head"
	"foundling/heap"
)

// What is known of a pointer: that of a class in Globals, or that of such a one's class.
const (
	class = iota + 1
	meta
)

// look: memory, and what the rules that hold have learnt of it.
type look struct {
	*heap.Heap
	root    api.Word
	classes []api.Word          // those of Globals, in their order
	names   map[string]api.Word // the same, by their names
	known   map[api.Word]int    // the same, and their classes
}

// newLook: a look that has learnt nothing.
func newLook(h *heap.Heap, root api.Word) *look {
	return &look{Heap: h, root: root, names: map[string]api.Word{}, known: map[api.Word]int{}}
}

// each: all objects, and their heads.
func (l *look) each() iter.Seq2[api.Word, head.Head] {
	return func(yield func(api.Word, head.Head) bool) {
		for w := l.First(); w != 0; w = l.After(w) {
			d, _ := l.Head(w)
			if !yield(w, d) {
				return
			}
		}
	}
}

// word: of an object; 0, which no sound memory has as a word, if there is none.
func (l *look) word(w api.Word, i int) api.Word {
	x, _ := l.Get(w, i)
	return x
}

// special: a word of the root's.
func (l *look) special(i int) api.Word { return l.word(l.root, i) }

// classOf: an object's class; 0 of what is none.
func (l *look) classOf(w api.Word) api.Word {
	d, _ := l.Head(w)
	return d.Class
}

// isOf: is it an object of the class that stands in the root's word i?
func (l *look) isOf(w api.Word, i int) bool {
	return l.Has(w) && l.classOf(w) == l.special(i)
}

// isList: is it Slots of ArrayClass?
func (l *look) isList(w api.Word) bool {
	d, _ := l.Head(w)
	return d.Kind == head.Slots && l.isOf(w, ArrayClass)
}

// isShaped: is it an object like a class?
func (l *look) isShaped(w api.Word) bool {
	d, _ := l.Head(w)
	return l.Has(w) && d.Kind == head.Fields && d.Size == Parts
}

// list: the words of an object.
func (l *look) list(w api.Word) []api.Word {
	d, _ := l.Head(w)
	out := make([]api.Word, d.Size)
	for i := range len(out) {
		out[i] = l.word(w, i)
	}
	return out
}

// rising: is each so manieth one of a list a symbol, and do their bytes rise?
func (l *look) rising(list []api.Word, step int) bool {
	var before []byte
	for i := 0; i < len(list); i += step {
		text, e := l.Bytes(list[i])
		if e != api.OK || !l.isOf(list[i], SymbolClass) {
			return false
		}
		if i > 0 && bytes.Compare(before, text) >= 0 {
			return false
		}
		before = text
	}
	return true
}
