package sound

import (
	"maps"
	"slices"
	"testing"

	"foundling/api"
	"foundling/head"
	"foundling/heap"
)

// plan: a class that is to be laid.
type plan struct {
	name, super string
	format      int
	vars        []string
	selectors   []string
}

// plans: the kernel's classes, in their order, and two more.
func plans() []plan {
	return []plan{
		{"Object", "", 0, nil, []string{"+", "foo"}}, {"Class", "Object", 20, []string{"super", "methods", "format", "name", "vars"}, nil}, {"Metaclass", "Object", 20, nil, nil},
		{"UndefinedObject", "Object", 0, nil, []string{"start"}}, {"True", "Object", 0, nil, nil}, {"False", "Object", 0, nil, nil}, {"SmallInteger", "Object", 0, nil, nil},
		{"String", "Object", 2, nil, nil}, {"Symbol", "String", 2, nil, nil}, {"Array", "Object", 1, nil, nil}, {"Method", "Object", 1, nil, nil}, {"Context", "Object", 9, []string{"x", "y"}, nil},
		{"Block", "Object", 0, nil, nil}, {"Process", "Object", 0, nil, nil}, {"Semaphore", "Object", 0, nil, nil}, {"Message", "Object", 0, nil, nil},
		{"Zebra", "Ape", 12, []string{"tail"}, nil}, {"Ape", "Object", 8, []string{"b", "a"}, []string{"a", "at:put:", "b"}},
	}
}

// world: a Smalltalk's memory, and where its parts are.
type world struct {
	t       *testing.T
	h       *heap.Heap
	root    api.Word
	symbols map[string]api.Word
	classes map[string]api.Word
	ape     api.Word // an instance of Ape
	text    api.Word // a String
}

// alloc: a new object, whose class comes later.
func (w *world) alloc(kind, size int) api.Word {
	w.t.Helper()
	p, e := w.h.Alloc(4, kind, size, 1)
	if e != api.OK {
		w.t.Fatalf("heap.Alloc: %d", e)
	}
	return p
}

// put: all the words of an object.
func (w *world) put(p api.Word, words ...api.Word) api.Word {
	for i, x := range words {
		w.h.Put(p, i, x)
	}
	return p
}

// get: a word that is reached by a word of a word, and so on.
func (w *world) get(p api.Word, path ...int) api.Word {
	w.t.Helper()
	for _, i := range path {
		x, e := w.h.Get(p, i)
		if e != api.OK {
			w.t.Fatalf("heap.Get(%x, %d): %d", p, i, e)
		}
		p = x
	}
	return p
}

// classOf: an object's.
func (w *world) classOf(p api.Word) api.Word {
	d, _ := w.h.Head(p)
	return d.Class
}

// special: a word of the root's.
func (w *world) special(i int) api.Word { return w.get(w.root, i) }

// raw: bytes of a class.
func (w *world) raw(class api.Word, text string) api.Word {
	p := w.alloc(head.Raw, len(text))
	for i := range len(text) {
		w.h.PutByte(p, i, text[i])
	}
	w.h.SetClass(p, class)
	return p
}

// array: Slots of ArrayClass.
func (w *world) array(words ...api.Word) api.Word {
	p := w.put(w.alloc(head.Slots, len(words)), words...)
	w.h.SetClass(p, w.classes["Array"])
	return p
}

// symbol: the one of these bytes.
func (w *world) symbol(text string) api.Word {
	if _, there := w.symbols[text]; !there {
		w.symbols[text] = w.raw(w.classes["Symbol"], text)
	}
	return w.symbols[text]
}

// list: an array of symbols.
func (w *world) list(texts ...string) api.Word {
	var words []api.Word
	for _, s := range texts {
		words = append(words, w.symbol(s))
	}
	return w.array(words...)
}

// methods: an array of symbols and methods by turns.
func (w *world) methods(texts ...string) api.Word {
	var words []api.Word
	for _, s := range texts {
		method := w.put(w.alloc(head.Slots, 1), 7)
		w.h.SetClass(method, w.classes["Method"])
		words = append(words, w.symbol(s), method)
	}
	return w.array(words...)
}

// newWorld: sound memory.
func newWorld(t *testing.T) *world {
	t.Helper()
	h, _ := heap.New(5000)
	w := &world{t: t, h: h, symbols: map[string]api.Word{}, classes: map[string]api.Word{}}
	w.root = w.alloc(head.Slots, Special)
	for _, p := range plans() {
		c := w.alloc(head.Fields, Parts)
		w.classes[p.name] = c
		h.SetClass(c, w.alloc(head.Fields, Parts))
	}
	h.SetClass(w.root, w.classes["Array"])
	for i, p := range plans()[:16] {
		h.Put(w.root, ObjectClass+i, w.classes[p.name])
	}
	for i, name := range []string{"UndefinedObject", "True", "False"} {
		p := w.alloc(head.Fields, 0)
		h.SetClass(p, w.classes[name])
		h.Put(w.root, i, p)
	}
	for _, p := range plans() {
		w.class(p)
	}
	w.others()
	h.Put(w.root, Lacks, w.symbol("doesNotUnderstand:"))
	h.Put(w.root, Spare, w.special(Nil))
	h.Put(w.root, Schedule, w.array(1, w.special(Nil)))
	h.Put(w.root, Globals, w.globals())
	h.Put(w.root, Symbols, w.allSymbols())
	return w
}

// class: fills a class and its class.
func (w *world) class(p plan) {
	c := w.classes[p.name]
	m := w.classOf(c)
	super, above := w.special(Nil), w.classes["Class"]
	if p.super != "" {
		super = w.classes[p.super]
		above = w.classOf(super)
	}
	w.put(c, super, w.methods(p.selectors...), api.Word(2*p.format+1), w.symbol(p.name), w.list(p.vars...))
	w.put(m, above, w.methods(), 2*20+1, c, w.list())
	w.h.SetClass(m, w.classes["Metaclass"])
}

// others: some instances.
func (w *world) others() {
	w.ape = w.put(w.alloc(head.Fields, 2), w.special(Nil), 5)
	w.h.SetClass(w.ape, w.classes["Ape"])
	zebra := w.put(w.alloc(head.Fields, 3), w.ape, w.array(), w.special(True))
	w.h.SetClass(zebra, w.classes["Zebra"])
	context := w.put(w.alloc(head.Slots, 1), zebra)
	w.h.SetClass(context, w.classes["Context"])
	w.text = w.raw(w.classes["String"], "any text, even one that isn't rising")
	w.raw(w.classes["String"], "")
	w.array(w.text, w.text, 9, w.special(False))
}

// globals: an array of names and classes by turns.
func (w *world) globals() api.Word {
	var words []api.Word
	for _, name := range slices.Sorted(maps.Keys(w.classes)) {
		words = append(words, w.symbol(name), w.classes[name])
	}
	return w.array(words...)
}

// allSymbols: an array of them.
func (w *world) allSymbols() api.Word { return w.list(slices.Sorted(maps.Keys(w.symbols))...) }

// changed: a new list with words that were changed.
func (w *world) changed(list api.Word, change func(words []api.Word) []api.Word) api.Word {
	d, _ := w.h.Head(list)
	var words []api.Word
	for i := range d.Size {
		words = append(words, w.get(list, i))
	}
	return w.array(change(words)...)
}

// insert: a list with more of them from a place on.
func (w *world) insert(list api.Word, at int, more ...api.Word) api.Word {
	return w.changed(list, func(words []api.Word) []api.Word { return slices.Insert(words, at, more...) })
}

// without: a list without some of them.
func (w *world) without(list api.Word, from, to int) api.Word {
	return w.changed(list, func(words []api.Word) []api.Word { return slices.Delete(words, from, to) })
}

// swapped: a list of which some at two places have changed places.
func (w *world) swapped(list api.Word, a, b int) api.Word {
	return w.changed(list, func(words []api.Word) []api.Word {
		words[a], words[b] = words[b], words[a]
		return words
	})
}
