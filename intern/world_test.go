package intern

import (
	"maps"
	"slices"
	"strings"
	"testing"

	"foundling/api"
	"foundling/head"
	"foundling/heap"
	"foundling/sound"
)

// kinds: of each class's instances 4 times the count of their fields, and their Kind.
var kinds = map[string]int{
	"Object": 0, "Class": 20, "Metaclass": 20, "UndefinedObject": 0, "True": 0, "False": 0, "SmallInteger": 0, "String": 2,
	"Symbol": 2, "Array": 1, "Method": 20, "Context": 1, "Block": 12, "Process": 16, "Semaphore": 12, "Message": 8,
	"Ape": 8, "Apes": 4, "List": 1, "Zebra": 2,
}

// above: where a class doesn't stand below Object.
var above = map[string]string{"Object": "", "Symbol": "String", "List": "Array", "Zebra": "String"}

// world: a Smalltalk's memory, laid by hand.
type world struct {
	t                *testing.T
	h                *heap.Heap
	root             api.Word
	symbols, classes map[string]api.Word
}

// alloc: a new object with these words.
func (w *world) alloc(class api.Word, kind int, words ...api.Word) api.Word {
	w.t.Helper()
	p, e := w.h.Alloc(class, kind, len(words), 1)
	if e != api.OK {
		w.t.Fatalf("heap.Alloc: %d", e)
	}
	for i, x := range words {
		w.h.Put(p, i, x)
	}
	return p
}

// raw: a new object with these bytes.
func (w *world) raw(class, text string) api.Word {
	w.t.Helper()
	p, e := w.h.Alloc(w.classes[class], head.Raw, len(text), 0)
	if e != api.OK {
		w.t.Fatalf("heap.Alloc: %d", e)
	}
	for i := range len(text) {
		w.h.PutByte(p, i, text[i])
	}
	return p
}

func (w *world) array(words ...api.Word) api.Word {
	w.t.Helper()
	return w.alloc(w.classes["Array"], head.Slots, words...)
}

// object: a new one of Fields.
func (w *world) object(class string) api.Word {
	w.t.Helper()
	return w.alloc(w.classes[class], head.Fields, slices.Repeat([]api.Word{w.special(sound.Nil)}, kinds[class]/4)...)
}

func (w *world) special(i int) api.Word {
	x, _ := w.h.Get(w.root, i)
	return x
}

func (w *world) classOf(p api.Word) api.Word {
	d, _ := w.h.Head(p)
	return d.Class
}

// listed: symbols, and behind each, if that is asked for, a class.
func (w *world) listed(of map[string]api.Word, classes bool) api.Word {
	var words []api.Word
	for _, text := range slices.Sorted(maps.Keys(of)) {
		words = append(words, w.symbols[text])
		if classes {
			words = append(words, of[text])
		}
	}
	return w.array(words...)
}

// newWorld: sound memory, with these symbols and those that there must be.
func newWorld(t *testing.T, texts ...string) *world {
	t.Helper()
	h, _ := heap.New(200000)
	w := &world{t: t, h: h, symbols: map[string]api.Word{}, classes: map[string]api.Word{}}
	for _, name := range slices.Sorted(maps.Keys(kinds)) {
		meta := w.alloc(4, head.Fields, make([]api.Word, 5)...)
		w.classes[name] = w.alloc(meta, head.Fields, make([]api.Word, 5)...)
	}
	for _, text := range slices.Concat(texts, slices.Sorted(maps.Keys(kinds)), []string{"doesNotUnderstand:"}) {
		if _, isThere := w.symbols[text]; !isThere {
			w.symbols[text] = w.raw("Symbol", text)
		}
	}
	nothing := w.alloc(w.classes["UndefinedObject"], head.Fields)
	root := []api.Word{nothing, w.alloc(w.classes["True"], head.Fields), w.alloc(w.classes["False"], head.Fields), w.listed(w.classes, true), w.listed(w.symbols, false)}
	for _, name := range sound.Kernel() {
		root = append(root, w.classes[name])
	}
	w.root = w.array(append(root, w.array(nothing), w.symbols["doesNotUnderstand:"], nothing)...)
	for name, c := range w.classes {
		w.fill(name, c)
	}
	if n := sound.Check(h, w.root); n != 0 {
		t.Fatalf("the memory that was laid breaks rule %d", n)
	}
	return w
}

func (w *world) fill(name string, c api.Word) {
	super, aboveMeta := w.special(sound.Nil), w.classes["Class"]
	if up, isThere := above[name]; name != "Object" {
		if !isThere {
			up = "Object"
		}
		super, aboveMeta = w.classes[up], w.classOf(w.classes[up])
	}
	meta := w.classOf(c)
	w.h.SetClass(meta, w.classes["Metaclass"])
	for i, x := range []api.Word{super, w.array(), api.Word(2*kinds[name] + 1), w.symbols[name], w.array()} {
		w.h.Put(c, i, x)
	}
	for i, x := range []api.Word{aboveMeta, w.array(), 2*20 + 1, c, w.array()} {
		w.h.Put(meta, i, x)
	}
}

// left: the memory has so many free cells now.
func (w *world) left(free int) {
	w.t.Helper()
	h, e := heap.Load(w.h.Used()+free, w.h.Last(), w.h.Words()...)
	if e != api.OK {
		w.t.Fatalf("heap.Load: %d", e)
	}
	w.h = h
}

// sound: is the memory so, and has it just these symbols, in a list in which they rise?
func (w *world) sound(what string) {
	w.t.Helper()
	if n := sound.Check(w.h, w.root); n != 0 {
		w.t.Errorf("P17.2: %s: the memory breaks rule %d", what, n)
	}
	list := w.special(sound.Symbols)
	d, _ := w.h.Head(list)
	if d.Class != w.classes["Array"] || d.Kind != head.Slots || d.Size != len(w.symbols) {
		w.t.Fatalf("P17.2: %s: Symbols is %+v, of %d symbols", what, d, len(w.symbols))
	}
	for i, text := range slices.Sorted(maps.Keys(w.symbols)) {
		if x, _ := w.h.Get(list, i); x != w.symbols[text] || w.text(x) != text {
			w.t.Fatalf("P17.2: %s: symbol %d is %x, want %q", what, i, x, text)
		}
	}
}

// text: the bytes of an object.
func (w *world) text(p api.Word) string {
	b, _ := w.h.Bytes(p)
	return string(b)
}

// cells: how many an object of bytes, or of words, takes.
func cells(bytes, words int) int { return 2 + (bytes+7)/8 + words }

// same: has nothing changed since?
func (w *world) same(what string, before *heap.Heap) {
	w.t.Helper()
	if !w.h.Same(before) {
		w.t.Errorf("P17.2: %s: the memory has changed", what)
	}
}

// kept: is what was there still there, but for the root's word of all symbols?
func (w *world) kept(what string, before *heap.Heap) {
	w.t.Helper()
	was, is := before.Words(), w.h.Words()
	at, _ := head.At(w.root)
	is[at+sound.Symbols] = was[at+sound.Symbols] // behind two words of the head, ahead of two cells that Words lacks
	if !slices.Equal(is[:len(was)], was) {
		w.t.Errorf("P17.2: %s: what was there has changed", what)
	}
}

// bytes: a text of so many, by turns of any value.
func bytes(count int) string {
	var b strings.Builder
	for i := range count {
		b.WriteByte(byte(i*7 + count))
	}
	return b.String()
}
