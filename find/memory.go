package find

import (
	"iter"

	"foundling/api"
	"foundling/heap"
	"foundling/sound"
)

// memory: a Smalltalk's, and its root. Of other memory what isn't there counts as 0.
type memory struct {
	*heap.Heap
	root api.Word
}

// word: of an object.
func (m memory) word(w api.Word, i int) api.Word {
	x, _ := m.Get(w, i)
	return x
}

// classOf: an object's class; 0 of what is none.
func (m memory) classOf(w api.Word) api.Word {
	d, _ := m.Head(w)
	return d.Class
}

// isClass: is it a class, or a class's class?
func (m memory) isClass(w api.Word) bool {
	instance := m.word(w, sound.Name)
	return m.isAlone(w) || m.isAlone(instance) && m.classOf(instance) == w
}

// isAlone: is it the instance that a metaclass has? Other objects may be of that class, too, and of MetaClass: they are no classes.
func (m memory) isAlone(w api.Word) bool {
	meta := m.classOf(w)
	return m.Has(w) && m.classOf(meta) == m.word(m.root, sound.MetaClass) && m.word(meta, sound.Name) == w
}

// way: a class, and those above it, each with how many classes further up it is. In memory that isn't sound a way may lead back to itself, and ends then: of the classes that were met one is kept in mind, at the first step, the second, the fourth, and so on, to be met again.
func (m memory) way(class api.Word) iter.Seq2[int, api.Word] {
	return func(yield func(int, api.Word) bool) {
		if !m.isClass(class) {
			return
		}
		nothing := m.word(m.root, sound.Nil)
		met, next := nothing, 1
		for up := 0; m.Has(class) && class != nothing && class != met; up++ {
			if !yield(up, class) {
				return
			}
			if up+1 == next {
				met, next = class, 2*next
			}
			class = m.word(class, sound.Super)
		}
	}
}

// methods: a class's own, each behind its name.
func (m memory) methods(class api.Word) iter.Seq2[api.Word, api.Word] {
	return func(yield func(api.Word, api.Word) bool) {
		list := m.word(class, sound.Methods)
		for i := 0; ; i += 2 {
			method, e := m.Get(list, i+1)
			if e != api.OK || !yield(m.word(list, i), method) {
				return
			}
		}
	}
}
