package step

import (
	"slices"
	"strings"
	"testing"

	"foundling/api"
	"foundling/boot"
	"foundling/code"
	"foundling/head"
	"foundling/heap"
	"foundling/sema"
	"foundling/sound"
)

// source: methods with slots, blocks within blocks, jumps to and fro, sends of many arguments, up and to super.
const source = `Object subclass: #P fields: 'x y z'!
P subclass: #Q fields: 'v'!
P methods!
three ^3!
none!
foo: a bar: b | c d | c := a. ^[:e | | f | f := e + b. [:g :h | f + x + g - h]] value: 'text' with: #(1 two 3) with: 1000!
deep: a ^self a: 1 b: 2 c: (self d: 4 e: 5 f: 6) g: [:i | i]!
wide | a b c d e f g h i j | a := [a]. j := a. b := c := -128. ^z := y!
if: a ^a ifTrue: [a isNil ifTrue: [x] ifFalse: ['no']] ifFalse: [y := nil]!
logic: a ^(a and: [x or: [self foo]]) ifTrue: [^false]!
loop: n | i | i := 0. [i < n] whileTrue: [i := i + 1. [:k | k = i ifTrue: [^k]. k] value: i]. [i > 0 or: [n isNil]] whileFalse: [i := i - 1]. ^true!
cascade ^self a; b: 1; c: 2 d: [self e; f]! !
Q methods!
foo: a bar: b ^[v := super foo: v bar: [super three]]!
three [:a :b :c | [:d | ^d + a + b + c]. v := x]. ^super three! !
`

// world: a Smalltalk's memory, looked at word by word.
type world struct {
	t       *testing.T
	h       *heap.Heap
	root    api.Word
	classes map[string]api.Word
}

// newWorld: the memory of the kernel and the source.
func newWorld(t *testing.T) *world {
	t.Helper()
	text := source
	for _, c := range sema.Kernel() {
		super := c.Super
		if super == "" {
			super = "nil"
		}
		text += super + " subclass: #" + c.Name + " fields: '" + strings.Join(c.Own, " ") + "'!\n"
	}
	p, problems := sema.Build(text)
	if len(problems) > 0 {
		t.Fatalf("no program: %v", problems)
	}
	h, root, e := boot.Build(p, 20000)
	if e != api.OK {
		t.Fatalf("boot.Build: %d", e)
	}
	w := &world{t: t, h: h, root: root, classes: map[string]api.Word{}}
	globals := w.list(w.special(sound.Globals))
	for i := 0; i < len(globals); i += 2 {
		w.classes[w.text(globals[i])] = globals[i+1]
	}
	return w
}

// copied: another one like it, whose memory has so many free cells.
func (w *world) copied(free int) *world {
	w.t.Helper()
	h, e := heap.Load(w.h.Used()+free, w.h.Last(), w.h.Words()...)
	if e != api.OK {
		w.t.Fatalf("heap.Load: %d", e)
	}
	return &world{w.t, h, w.root, w.classes}
}

func (w *world) special(i int) api.Word { return w.word(w.root, i) }

func (w *world) nothing() api.Word { return w.special(sound.Nil) }

func (w *world) word(p api.Word, i int) api.Word {
	x, _ := w.h.Get(p, i)
	return x
}

func (w *world) list(p api.Word) []api.Word {
	d, _ := w.h.Head(p)
	out := make([]api.Word, d.Size)
	for i := range out {
		out[i] = w.word(p, i)
	}
	return out
}

func (w *world) text(p api.Word) string {
	b, _ := w.h.Bytes(p)
	return string(b)
}

// alloc: a new object of words.
func (w *world) alloc(class string, kind int, words ...api.Word) api.Word {
	w.t.Helper()
	p, e := w.h.Alloc(w.classes[class], kind, len(words), 1)
	if e != api.OK {
		w.t.Fatalf("heap.Alloc: %d", e)
	}
	for i, x := range words {
		w.h.Put(p, i, x)
	}
	return p
}

// raw: a new String.
func (w *world) raw(b ...byte) api.Word {
	w.t.Helper()
	p, e := w.h.Alloc(w.classes["String"], head.Raw, len(b), 0)
	if e != api.OK {
		w.t.Fatalf("heap.Alloc: %d", e)
	}
	for i, x := range b {
		w.h.PutByte(p, i, x)
	}
	return p
}

// num: a number's word.
func num(n int64) api.Word { return api.Word(n)<<1 | 1 }

// methods: all of a class.
func (w *world) methods(class string) []api.Word {
	var out []api.Word
	list := w.list(w.word(w.classes[class], sound.Methods))
	for i := 0; i < len(list); i += 2 {
		out = append(out, list[i+1])
	}
	return out
}

// like: a method that is laid by hand.
func (w *world) like(slots, stack int, literals []api.Word, b ...byte) api.Word {
	w.t.Helper()
	header := num(int64(16*slots + 1024*stack))
	return w.alloc("Method", head.Fields, header, w.alloc("Array", head.Slots, literals...), w.raw(b...), w.special(sound.Lacks), w.classes["P"])
}

// encoded: the bytes of instructions.
func encoded(t *testing.T, list ...code.Instr) []byte {
	t.Helper()
	b, e := code.Encode(list...)
	if e != api.OK {
		t.Fatalf("code.Encode(%v): %d", list, e)
	}
	return b
}

// instance: of P.
func (w *world) instance() api.Word {
	w.t.Helper()
	return w.alloc("P", head.Fields, num(7), w.nothing(), w.root)
}

// context: of a method, laid by hand, with slots that are nil, and these words on its stack.
func (w *world) context(method, receiver api.Word, pc int, stack ...api.Word) api.Word {
	w.t.Helper()
	slots, places := sizes(w.word(method, 0))
	words := []api.Word{w.nothing(), num(int64(pc)), num(int64(len(stack))), method, receiver, w.nothing()}
	words = append(words, slices.Repeat([]api.Word{w.nothing()}, slots)...)
	words = append(words, stack...)
	return w.alloc("Context", head.Slots, append(words, slices.Repeat([]api.Word{num(0)}, max(0, places-len(stack)))...)...)
}

// inner: of a block whose home is a context, laid by hand, with so many places more than there are words on its stack.
func (w *world) inner(home api.Word, pc, free int, stack ...api.Word) api.Word {
	w.t.Helper()
	words := append([]api.Word{home, num(int64(pc)), num(int64(len(stack))), w.word(home, boot.Method), w.word(home, boot.Receiver), home}, stack...)
	return w.alloc("Context", head.Slots, append(words, slices.Repeat([]api.Word{num(0)}, free)...)...)
}

// sizes: what a header says of slots and stack.
func sizes(header api.Word) (slots, stack int) {
	n := int64(header) >> 1
	return int(n / 16 % 64), int(n / 1024 % 256)
}

// same: is memory as another one?
func (w *world) same(what string, want *heap.Heap) bool {
	w.t.Helper()
	if w.h.Same(want) {
		return true
	}
	was, is := want.Words(), w.h.Words()
	w.t.Errorf("P21.4: behind %s memory is another one: %d cells, want %d", what, len(is), len(was))
	for i := range min(len(was), len(is)) {
		if was[i] != is[i] {
			w.t.Errorf("cell %d is %x, want %x", i+2, is[i], was[i])
		}
	}
	return false
}

// sound: is the memory so?
func (w *world) sound(what string) {
	w.t.Helper()
	if n := sound.Check(w.h, w.root); n != 0 {
		w.t.Errorf("behind %s the memory breaks rule %d", what, n)
	}
}
