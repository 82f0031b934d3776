package boot

import (
	"maps"
	"slices"

	"foundling/api"
	"foundling/head"
	"foundling/heap"
	"foundling/scope"
	"foundling/sema"
	"foundling/small"
	"foundling/sound"
)

// lacks: the message of what isn't understood.
const lacks = "doesNotUnderstand:"

// A Format is formatStep times a count of fields, and a Kind.
const formatStep = 4

// later: a pointer in the stead of a class that isn't there yet.
const later = 2

// fault: what building gives up with.
type fault struct{ e api.Errno }

// builder: memory, and the program that is laid in it.
type builder struct {
	*heap.Heap
	sema.Program
	root    api.Word
	special [sound.Special]api.Word // the root's words, as far as they are known
	classes map[string]api.Word
	symbols map[string]api.Word
}

// made: a word, if it could be made: else all is given up, by a panic that Build catches.
func made(w api.Word, e api.Errno) api.Word {
	if e != api.OK {
		panic(fault{e})
	}
	return w
}

// lay: all of it. Classes come first, as each object is of one; then what the root has, as literals are made by it.
func (b *builder) lay() {
	b.layClasses()
	b.layConstants()
	b.laySymbols()
	b.layGlobals()
	b.special[sound.Schedule] = b.special[sound.Nil] // until there is one
	b.root = b.list(b.special[:]...)
	for _, c := range b.Classes {
		b.fill(c)
	}
	b.Put(b.root, sound.Schedule, b.schedule())
}

// layClasses: all of them, each with its class, as yet without words.
func (b *builder) layClasses() {
	for _, c := range b.Classes {
		meta := made(b.Alloc(later, head.Fields, sound.Parts, 0))
		b.classes[c.Name] = made(b.Alloc(meta, head.Fields, sound.Parts, 0))
	}
	for i, name := range sound.Kernel() {
		b.special[sound.ObjectClass+i] = b.class(name)
	}
	for _, c := range b.Classes {
		b.SetClass(b.classOf(b.class(c.Name)), b.special[sound.MetaClass])
	}
}

// layConstants: nil, true, false.
func (b *builder) layConstants() {
	b.special[sound.Nil] = b.fields(sound.NilClass)
	b.special[sound.True] = b.fields(sound.TrueClass)
	b.special[sound.False] = b.fields(sound.FalseClass)
	b.special[sound.Spare] = b.special[sound.Nil]
}

// laySymbols: all that the program has.
func (b *builder) laySymbols() {
	b.nameAll()
	texts := slices.Sorted(maps.Keys(b.symbols))
	for _, text := range texts {
		b.symbols[text] = b.raw(sound.SymbolClass, []byte(text)...)
	}
	b.special[sound.Symbols] = b.symbolList(texts...)
	b.special[sound.Lacks] = b.symbols[lacks]
}

// nameAll: each text that will be a symbol.
func (b *builder) nameAll() {
	b.name(lacks, Start)
	for _, c := range b.Classes {
		b.name(c.Name)
		b.name(c.Own...)
		for _, o := range slices.Concat(c.Methods, c.Metas) {
			b.name(o.Name)
			b.nameLiterals(o.Lits...)
		}
	}
}

// nameLiterals: those among literals.
func (b *builder) nameLiterals(items ...scope.Item) {
	for _, x := range items {
		if x.Kind == scope.Symbol {
			b.name(x.Name)
		}
		b.nameLiterals(x.Kids...)
	}
}

// name: texts that will be symbols.
func (b *builder) name(texts ...string) {
	for _, text := range texts {
		b.symbols[text] = 0
	}
}

// layGlobals: by turns names and classes.
func (b *builder) layGlobals() {
	var words []api.Word
	for _, c := range b.Classes {
		words = append(words, b.symbols[c.Name], b.class(c.Name))
	}
	b.special[sound.Globals] = b.list(words...)
}

// class: of a name.
func (b *builder) class(name string) api.Word {
	c, isThere := b.classes[name]
	if !isThere {
		panic(fault{api.ErrNone})
	}
	return c
}

// classOf: an object's.
func (b *builder) classOf(w api.Word) api.Word {
	d, _ := b.Head(w)
	return d.Class
}

// fill: a class and its class, with what they have.
func (b *builder) fill(c sema.Class) {
	class := b.class(c.Name)
	meta := b.classOf(class)
	super, above := b.special[sound.Nil], b.special[sound.ClassClass]
	if c.Super != "" {
		super = b.class(c.Super)
		above = b.classOf(super)
	}
	b.put(class, []api.Word{
		sound.Super:   super,
		sound.Methods: b.methods(class, c.Methods...),
		sound.Format:  number(formatStep*int64(len(c.All)) + int64(c.Kind)),
		sound.Name:    b.symbols[c.Name],
		sound.Vars:    b.symbolList(c.Own...),
	}...)
	b.put(meta, []api.Word{
		sound.Super:   above,
		sound.Methods: b.methods(meta, c.Metas...),
		sound.Format:  number(formatStep*sound.Parts + head.Fields),
		sound.Name:    class,
		sound.Vars:    b.list(),
	}...)
}

// number: its word.
func number(n int64) api.Word { return made(small.Of(n)) }

// put: words into an object, from its first one on.
func (b *builder) put(w api.Word, words ...api.Word) {
	for i, x := range words {
		b.Put(w, i, x)
	}
}

// fields: a new object of the class that stands in the root's word i.
func (b *builder) fields(i int, words ...api.Word) api.Word {
	w := made(b.Alloc(b.special[i], head.Fields, len(words), 0))
	b.put(w, words...)
	return w
}

// list: a new Array.
func (b *builder) list(words ...api.Word) api.Word {
	w := made(b.Alloc(b.special[sound.ArrayClass], head.Slots, len(words), 0))
	b.put(w, words...)
	return w
}

// symbolList: a new Array of symbols that are there.
func (b *builder) symbolList(texts ...string) api.Word {
	var words []api.Word
	for _, text := range texts {
		words = append(words, b.symbols[text])
	}
	return b.list(words...)
}

// raw: a new object of bytes, of the class that stands in the root's word i.
func (b *builder) raw(i int, text ...byte) api.Word {
	w := made(b.Alloc(b.special[i], head.Raw, len(text), 0))
	for n, x := range text {
		b.PutByte(w, n, x)
	}
	return w
}
