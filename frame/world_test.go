package frame

import (
	"maps"
	"slices"
	"strings"
	"testing"

	"foundling/api"
	"foundling/boot"
	"foundling/head"
	"foundling/heap"
	"foundling/sema"
	"foundling/small"
	"foundling/sound"
)

// source: methods of few and of many slots, with blocks, literals, fields.
const source = `Object subclass: #P fields: 'x y z'!
P methods!
none!
foo: a bar: b | c d | c := a. ^[:e | | f | f := e + b. [:g :h | f + x + g - h]] value: 'text' with: #(1 two 3) with: 1000!
deep: a ^self a: 1 b: 2 c: (self d: 4 e: 5 f: 6) g: [:i | i]!
wide | a b c d e f g h i j | a := [a]. ^z := y! !
`

// world: a Smalltalk's memory, looked at word by word.
type world struct {
	t       *testing.T
	h       *heap.Heap
	root    api.Word
	classes map[string]api.Word
}

// newWorld: the memory of the kernel and the source.
func newWorld(t *testing.T) *world {
	t.Helper()
	text := source
	for _, c := range sema.Kernel() {
		super := c.Super
		if super == "" {
			super = "nil"
		}
		text += super + " subclass: #" + c.Name + " fields: '" + strings.Join(c.Own, " ") + "'!\n"
	}
	p, problems := sema.Build(text)
	if len(problems) > 0 {
		t.Fatalf("no program: %v", problems)
	}
	h, root, e := boot.Build(p, 20000)
	if e != api.OK {
		t.Fatalf("boot.Build: %d", e)
	}
	w := &world{t: t, h: h, root: root, classes: map[string]api.Word{}}
	h.Put(root, sound.Spare, root) // nothing is asked of it
	globals := w.list(w.special(sound.Globals))
	for i := 0; i < len(globals); i += 2 {
		w.classes[w.text(globals[i])] = globals[i+1]
	}
	return w
}

func (w *world) special(i int) api.Word { return w.word(w.root, i) }

func (w *world) nothing() api.Word { return w.special(sound.Nil) }

func (w *world) word(p api.Word, i int) api.Word {
	x, _ := w.h.Get(p, i)
	return x
}

func (w *world) list(p api.Word) []api.Word {
	d, _ := w.h.Head(p)
	out := make([]api.Word, d.Size)
	for i := range out {
		out[i] = w.word(p, i)
	}
	return out
}

func (w *world) text(p api.Word) string {
	b, _ := w.h.Bytes(p)
	return string(b)
}

// objects: all that there are.
func (w *world) objects() []api.Word {
	var out []api.Word
	for p := w.h.First(); p != 0; p = w.h.After(p) {
		out = append(out, p)
	}
	return out
}

// alloc: a new object of words.
func (w *world) alloc(class string, kind int, words ...api.Word) api.Word {
	w.t.Helper()
	p, e := w.h.Alloc(w.classes[class], kind, len(words), 1)
	if e != api.OK {
		w.t.Fatalf("heap.Alloc: %d", e)
	}
	for i, x := range words {
		w.h.Put(p, i, x)
	}
	return p
}

// raw: a new String.
func (w *world) raw(b ...byte) api.Word {
	w.t.Helper()
	p, e := w.h.Alloc(w.classes["String"], head.Raw, len(b), 0)
	if e != api.OK {
		w.t.Fatalf("heap.Alloc: %d", e)
	}
	for i, x := range b {
		w.h.PutByte(p, i, x)
	}
	return p
}

// num: a number's word.
func num(n int64) api.Word { return api.Word(n)<<1 | 1 }

// method: of the class P, by its name.
func (w *world) method(name string) api.Word {
	w.t.Helper()
	list := w.list(w.word(w.classes["P"], sound.Methods))
	for i := 0; i < len(list); i += 2 {
		if w.text(list[i]) == name {
			return list[i+1]
		}
	}
	w.t.Fatalf("P has no %s", name)
	return 0
}

// like: a method that is laid by hand.
func (w *world) like(slots, stack int, literals []api.Word, code ...byte) api.Word {
	w.t.Helper()
	return w.alloc("Method", head.Fields, num(int64(16*slots+1024*stack)), w.alloc("Array", head.Slots, literals...), w.raw(code...), w.word(w.method("none"), 3), w.classes["P"])
}

// instance: of P.
func (w *world) instance() api.Word {
	w.t.Helper()
	return w.alloc("P", head.Fields, num(7), w.nothing(), w.root)
}

// context: of a method, laid by hand, with nothing on its stack.
func (w *world) context(method, receiver, sender api.Word) api.Word {
	w.t.Helper()
	slots, stack := sizes(w.word(method, 0))
	words := []api.Word{sender, num(0), num(0), method, receiver, w.nothing()}
	words = append(words, slices.Repeat([]api.Word{w.nothing()}, slots)...)
	return w.alloc("Context", head.Slots, append(words, slices.Repeat([]api.Word{num(0)}, stack)...)...)
}

// inner: of a block whose home is a context, laid by hand, with so many places.
func (w *world) inner(home, sender api.Word, places int) api.Word {
	w.t.Helper()
	words := []api.Word{sender, num(3), num(0), w.word(home, 3), w.word(home, 4), home}
	return w.alloc("Context", head.Slots, append(words, slices.Repeat([]api.Word{num(0)}, places)...)...)
}

// sizes: what a header says of slots and stack.
func sizes(header api.Word) (slots, stack int) {
	n := int64(header) >> 1
	return int(n / 16 % 64), int(n / 1024 % 256)
}

// open: a frame of what is a context.
func (w *world) open(p api.Word) *Frame {
	w.t.Helper()
	f, e := Open(w.h, w.root, p)
	if f == nil || e != api.OK {
		w.t.Fatalf("P20.1: Open(%x): %d", p, e)
	}
	return f
}

// changes: since it was so, these words of an object, and nothing else.
func (w *world) changes(what string, before *heap.Heap, p api.Word, words map[int]api.Word) {
	w.t.Helper()
	want := before.Clone()
	for i, x := range words {
		if e := want.Put(p, i, x); e != api.OK {
			w.t.Fatalf("heap.Put: %d", e)
		}
	}
	if !w.h.Same(want) {
		w.t.Errorf("P20.5: %s has not changed memory so: %v", what, words)
		was, is := before.Words(), w.h.Words()
		for i := range min(len(was), len(is)) {
			if was[i] != is[i] {
				w.t.Errorf("cell %d was %x, is %x", i+2, was[i], is[i])
			}
		}
	}
}

// same: nothing has changed since.
func (w *world) same(what string, before *heap.Heap) {
	w.t.Helper()
	w.changes(what, before, 0, nil)
}

// grown: one object more, that is this, and nothing else.
func (w *world) grown(what string, before *heap.Heap, p api.Word, d head.Head, words ...api.Word) {
	w.t.Helper()
	was, is := before.Words(), w.h.Words()
	got, _ := w.h.Head(p)
	d.Size = len(words)
	if before.Has(p) || got != d || !slices.Equal(w.list(p), words) {
		w.t.Fatalf("P20.3: %s made %+v, %x; want %+v, %x", what, got, w.list(p), d, words)
	}
	if len(is) != len(was)+2+len(words) || !slices.Equal(is[:len(was)], was) || w.h.Last() != before.Last() {
		w.t.Errorf("P20.5: %s has changed what was there", what)
	}
}

// sound: is the memory so?
func (w *world) sound(what string) {
	w.t.Helper()
	if n := sound.Check(w.h, w.root); n != 0 {
		w.t.Errorf("behind %s the memory breaks rule %d", what, n)
	}
}

// left: the memory has so many free cells now.
func (w *world) left(free int) {
	w.t.Helper()
	h, e := heap.Load(w.h.Used()+free, w.h.Last(), w.h.Words()...)
	if e != api.OK {
		w.t.Fatalf("heap.Load: %d", e)
	}
	w.h = h
}

// keys: of a table by names, rising.
func keys[T any](m map[string]T) []string { return slices.Sorted(maps.Keys(m)) }

// odd: words of all kinds.
func (w *world) odd() map[string]api.Word {
	return map[string]api.Word{
		"nil": w.nothing(), "0": 0, "a number": num(5), "a number below 0": num(-1), "a great number": num(1 << 40), "the greatest": num(api.MaxInt), "the least": num(api.MinInt),
		"a String": w.raw(1, 2, 3), "an Array": w.alloc("Array", head.Slots, slices.Repeat([]api.Word{w.nothing()}, 9)...), "a class": w.classes["P"], "a symbol": w.word(w.method("none"), 3), "the root": w.root,
		"like a method": w.alloc("Array", head.Slots, w.list(w.method("foo:bar:"))...),
		"no object":     w.root + 2, "beyond": 1 << 40, "the last word": 1<<64 - 2,
	}
}

// isNumber: is it one?
func isNumber(w api.Word) bool { return small.Is(w) }
