package prim

import (
	"fmt"
	"slices"
	"strings"
	"testing"

	"foundling/api"
	"foundling/boot"
	"foundling/head"
	"foundling/heap"
	"foundling/intern"
	"foundling/sema"
	"foundling/sound"
)

// shutNames: the classes that aren't open, as the chapter lists them.
func shutNames() []string {
	return []string{"Class", "Metaclass", "UndefinedObject", "True", "False", "SmallInteger", "Symbol", "Method", "Context", "Block", "Process", "Semaphore"}
}

// source: classes of each kind below the kernel's; those of Y are put below the shut ones, those of Z get Formats of their own.
func source() string {
	text := `Object subclass: #P fields: 'x y z'!
P subclass: #Q fields: 'v'!
Array subclass: #L fields: ''!
L subclass: #LL fields: ''!
String subclass: #S fields: ''!
Semaphore subclass: #Sem fields: 'more'!
Process subclass: #Proc fields: ''!
Message subclass: #Mes fields: 'm'!
Object subclass: #Empty fields: ''!
P methods!
foo ^1!
foo: a ^a! !
P class methods!
make ^2! !
Object methods!
all ^self! !
SmallInteger methods!
half ^self! !
UndefinedObject methods!
start ^self foo! !
`
	for i := range shutNames() {
		text += fmt.Sprintf("Object subclass: #Y%d fields: ''!\n", i)
	}
	for i := range 6 {
		text += fmt.Sprintf("Object subclass: #Z%d fields: ''!\n", i)
	}
	for _, c := range sema.Kernel() {
		super := c.Super
		if super == "" {
			super = "nil"
		}
		text += super + " subclass: #" + c.Name + " fields: '" + strings.Join(c.Own, " ") + "'!\n"
	}
	return text
}

// world: a Smalltalk's memory, looked at word by word.
type world struct {
	t       *testing.T
	h       *heap.Heap
	root    api.Word
	classes map[string]api.Word
}

// newWorld: the memory of the kernel and the source.
func newWorld(t *testing.T) *world {
	t.Helper()
	p, problems := sema.Build(source())
	if len(problems) > 0 {
		t.Fatalf("no program: %v", problems)
	}
	h, root, e := boot.Build(p, 1<<15)
	if e != api.OK {
		t.Fatalf("boot.Build: %d", e)
	}
	w := &world{t: t, h: h, root: root, classes: map[string]api.Word{}}
	globals := w.list(w.special(sound.Globals))
	for i := 0; i < len(globals); i += 2 {
		w.classes[w.text(globals[i])] = globals[i+1]
	}
	for i, name := range shutNames() {
		w.below(fmt.Sprintf("Y%d", i), name, w.word(w.classes[name], sound.Format))
	}
	w.below("Z0", "Array", num(8))   // of Fields, 2
	w.below("Z1", "Object", num(1))  // of Slots
	w.below("Z2", "Object", num(2))  // of bytes
	w.below("Z3", "String", num(1))  // of Slots
	w.below("Z4", "Array", num(2))   // of bytes
	w.below("Z5", "String", num(12)) // of Fields, 3
	w.sound("the source")
	return w
}

// below: a class stands below another one, with a Format of its own.
func (w *world) below(name, above string, format api.Word) {
	c, a := w.classes[name], w.classes[above]
	w.h.Put(c, sound.Super, a)
	w.h.Put(w.classOf(c), sound.Super, w.classOf(a))
	w.h.Put(c, sound.Format, format)
}

// copied: another one like it, whose memory has so many free cells.
func (w *world) copied(free int) *world {
	w.t.Helper()
	h, e := heap.Load(w.h.Used()+free, w.h.Last(), w.h.Words()...)
	if e != api.OK {
		w.t.Fatalf("heap.Load: %d", e)
	}
	return &world{w.t, h, w.root, w.classes}
}

func (w *world) special(i int) api.Word { return w.word(w.root, i) }

func (w *world) nothing() api.Word { return w.special(sound.Nil) }

func (w *world) word(p api.Word, i int) api.Word {
	x, _ := w.h.Get(p, i)
	return x
}

func (w *world) head(p api.Word) head.Head {
	d, _ := w.h.Head(p)
	return d
}

// classOf: of a word; 0 of what has none.
func (w *world) classOf(p api.Word) api.Word {
	if p&1 == 1 {
		return w.classes["SmallInteger"]
	}
	return w.head(p).Class
}

func (w *world) list(p api.Word) []api.Word {
	out := make([]api.Word, w.head(p).Size)
	for i := range out {
		out[i] = w.word(p, i)
	}
	return out
}

func (w *world) text(p api.Word) string {
	b, _ := w.h.Bytes(p)
	return string(b)
}

// alloc: a new object of words.
func (w *world) alloc(class string, kind int, words ...api.Word) api.Word {
	w.t.Helper()
	p, e := w.h.Alloc(w.classes[class], kind, len(words), 1)
	if e != api.OK {
		w.t.Fatalf("heap.Alloc: %d", e)
	}
	for i, x := range words {
		w.h.Put(p, i, x)
	}
	return p
}

// raw: a new object of bytes.
func (w *world) raw(class, s string) api.Word {
	w.t.Helper()
	p, e := w.h.Alloc(w.classes[class], head.Raw, len(s), 0)
	if e != api.OK {
		w.t.Fatalf("heap.Alloc: %d", e)
	}
	for i := range len(s) {
		w.h.PutByte(p, i, s[i])
	}
	return p
}

// symbol: perhaps a new one.
func (w *world) symbol(s string) api.Word {
	w.t.Helper()
	p, e := intern.Intern(w.h, w.root, s)
	if e != api.OK {
		w.t.Fatalf("intern.Intern: %d", e)
	}
	return p
}

// num: a number's word.
func num(n int64) api.Word { return api.Word(n)<<1 | 1 }

// sound: is the memory so?
func (w *world) sound(what string) {
	w.t.Helper()
	if n := sound.Check(w.h, w.root); n != 0 {
		w.t.Errorf("P22.2: behind %s the memory breaks rule %d", what, n)
	}
}

// numbers: near all limits.
func numbers() []api.Word {
	var out []api.Word
	for _, n := range []int64{0, 1, -1, 2, 3, -3, 5, 7, -7, 61, 62, 63, -61, -62, -63, -64, 255, 256, -256, 1 << 31, 1 << 32, api.MaxObject - 1, api.MaxObject, api.MaxObject + 1, api.MaxInt, api.MaxInt - 1, api.MinInt, api.MinInt + 1} {
		out = append(out, num(n))
	}
	return out
}

// peopled: sound memory with objects of each kind of class, and all that may be handed in: these, some numbers, and what is no word of it.
func peopled(t *testing.T) (*world, []api.Word) {
	w := newWorld(t)
	nothing := w.nothing()
	some := []api.Word{nothing, w.special(sound.True), w.special(sound.False), w.special(sound.Schedule), w.word(w.special(sound.Schedule), boot.Active)}
	some = append(some, w.word(some[4], 0))
	for _, s := range []string{"foo", "foo:", "all", "half", "make", "start", "P", "nobody's", ""} {
		some = append(some, w.symbol(s))
	}
	for _, s := range []string{"", "a", "abc", "abd", "ab\xff", "-7", "4611686018427387903", "4611686018427387904", "-4611686018427387905", "1x", "foo", "new one", "12345678", "123456789"} {
		some = append(some, w.raw("String", s))
	}
	some = append(some, w.raw("S", "abc"), w.raw("S", ""), w.raw("Y6", "abc"), w.raw("Y6", "like a symbol"), w.raw("Z2", "abc"), w.raw("Z4", "abc"))
	some = append(some, w.alloc("Array", head.Slots), w.alloc("Array", head.Slots, num(1), nothing, w.root), w.alloc("L", head.Slots, num(4), num(5)), w.alloc("LL", head.Slots, num(6)), w.alloc("Z1", head.Slots, num(1), num(2)), w.alloc("Z3", head.Slots, num(1), num(2)))
	some = append(some, w.alloc("P", head.Fields, num(1), num(2), nothing), w.alloc("P", head.Fields, num(7), num(7), num(7)), w.alloc("Q", head.Fields, num(1), num(2), num(3), num(4)), w.alloc("Empty", head.Fields), w.alloc("Object", head.Fields), w.alloc("Mes", head.Fields, nothing, nothing, nothing), w.alloc("Z0", head.Fields, num(1), num(2)), w.alloc("Z5", head.Fields, num(1), num(2), num(3)))
	some = append(some, w.alloc("Semaphore", head.Fields, num(0), nothing, nothing), w.alloc("Sem", head.Fields, num(0), nothing, nothing, nothing), w.alloc("Proc", head.Fields, nothing, num(1), nothing, nothing), w.alloc("Block", head.Fields, nothing, num(1), num(0)))
	for i, name := range shutNames() {
		format := int64(w.word(w.classes[name], sound.Format)) >> 1
		if name != "Symbol" {
			some = append(some, w.alloc(fmt.Sprintf("Y%d", i), int(format%4), slices.Repeat([]api.Word{nothing}, int(format/4))...))
		}
	}
	methods := w.word(w.classes["P"], sound.Methods)
	some = append(some, w.word(methods, 1))
	globals := w.list(w.special(sound.Globals))
	for i := 1; i < len(globals); i += 2 {
		some = append(some, globals[i])
	}
	for _, name := range []string{"P", "Object", "Class", "Metaclass", "Array", "Symbol", "Y0"} {
		some = append(some, w.classOf(w.classes[name]))
	}
	// Of a class's class without being the class; of Metaclass without being a class's class.
	for _, class := range []api.Word{w.classOf(w.classes["P"]), w.classes["Metaclass"]} {
		p := w.alloc("P", head.Fields, w.classes["Object"], num(1), num(0), num(3), num(4))
		w.h.SetClass(p, class)
		some = append(some, p)
	}
	w.sound("what was laid by hand")
	return w, some
}

// strange: what is neither a number nor an object.
func (w *world) strange() []api.Word { return []api.Word{0, 2, w.root + 2, 1 << 30, 1<<64 - 2} }
