package prim

import (
	"foundling/api"
	"foundling/find"
	"foundling/head"
	"foundling/heap"
	"foundling/small"
	"foundling/sound"
)

// formatStep: a Format is that times a count of fields, and a Kind.
const formatStep = 4

// memory: a Smalltalk's, and its root. Of other memory what isn't there counts as 0.
type memory struct {
	*heap.Heap
	root api.Word
}

// special: a word of the root's.
func (m memory) special(i int) api.Word {
	w, _ := m.Get(m.root, i)
	return w
}

// classOf: a word's class; 0 of what is neither a number nor an object.
func (m memory) classOf(w api.Word) api.Word { return find.ClassOf(m.Heap, m.root, w) }

// isKin: is a class that which stands in the root's word i, or below?
func (m memory) isKin(class api.Word, i int) bool {
	return find.Kin(m.Heap, m.root, class, m.special(i))
}

// isOf: is it an object of just that class?
func (m memory) isOf(w api.Word, i int) bool { return m.Has(w) && m.classOf(w) == m.special(i) }

// size: how many words, or bytes, an object has.
func (m memory) size(w api.Word) int {
	d, _ := m.Head(w)
	return d.Size
}

// isKind: is it an object of this kind?
func (m memory) isKind(w api.Word, kind int) bool {
	d, e := m.Head(w)
	return e == api.OK && d.Kind == kind
}

// isNamed: are its words fields?
func (m memory) isNamed(w api.Word) bool { return m.isKind(w, head.Fields) }

func (m memory) isList(w api.Word) bool {
	return m.isKind(w, head.Slots) && m.isKin(m.classOf(w), sound.ArrayClass)
}

// isText: has it bytes, as a String, or a Symbol?
func (m memory) isText(w api.Word) bool {
	return m.isKind(w, head.Raw) && m.isKin(m.classOf(w), sound.StringClass)
}

func (m memory) isSymbolic(w api.Word) bool { return m.isKin(m.classOf(w), sound.SymbolClass) }

func (m memory) isClass(w api.Word) bool { return m.isOf(m.classOf(w), sound.MetaClass) }

// format: the kind of a class's objects, and how many fields they have.
func (m memory) format(class api.Word) (kind, count int) {
	w, _ := m.Get(class, sound.Format)
	n, _ := small.Value(w)
	return int(n % formatStep), int(n / formatStep)
}

// shut: the classes whose objects, and those of classes below, the machine leans on: they aren't open.
func (m memory) shut() map[api.Word]int {
	classes := map[api.Word]int{}
	for _, i := range [...]int{
		sound.ClassClass, sound.MetaClass, sound.NilClass, sound.TrueClass, sound.FalseClass, sound.IntClass,
		sound.SymbolClass, sound.MethodClass, sound.ContextClass, sound.BlockClass, sound.ProcessClass, sound.SemaphoreClass,
	} {
		classes[m.special(i)] = i
	}
	return classes
}

// isShut: is a class one of these, or below, and not by the one that may be? In memory that isn't sound a way up may lead back to itself: it has no more classes than there are cells.
func (m memory) isShut(class api.Word, but int) bool {
	classes, nothing := m.shut(), m.special(sound.Nil)
	for range m.Cells() {
		if i, isThere := classes[class]; isThere {
			return i != but
		}
		if class == nothing || !m.Has(class) {
			break
		}
		class, _ = m.Get(class, sound.Super)
	}
	return false
}

// isOpen: is it an object with which anything may be done?
func (m memory) isOpen(w api.Word) bool {
	return m.Has(w) && !m.isShut(m.classOf(w), sound.Nil)
}
