package sound

import (
	"math"
	"slices"
	"strings"
	"testing"

	"foundling/api"
	"foundling/head"
	"foundling/heap"
)

// P8.1

func TestKernel(t *testing.T) {
	want := strings.Fields("Object Class Metaclass UndefinedObject True False SmallInteger String Symbol Array Method Context Block Process Semaphore Message")
	if got := Kernel(); !slices.Equal(got, want) {
		t.Errorf("P8.1: Kernel = %v", got)
	}
	got := Kernel()
	clear(got)
	if !slices.Equal(Kernel(), want) {
		t.Errorf("P8.1: Kernel hands out what it keeps")
	}
}

func TestNumbers(t *testing.T) {
	root := []int{Nil, True, False, Globals, Symbols, ObjectClass, ClassClass, MetaClass, NilClass, TrueClass, FalseClass, IntClass, StringClass, SymbolClass, ArrayClass, MethodClass, ContextClass, BlockClass, ProcessClass, SemaphoreClass, MessageClass, Schedule, Lacks, Spare, Special}
	for i, n := range root {
		if i != n {
			t.Errorf("P8.2: the root's word %d is %d", i, n)
		}
	}
	for i, n := range []int{Super, Methods, Format, Name, Vars, Parts} {
		if i != n {
			t.Errorf("P8.2: a class's word %d is %d", i, n)
		}
	}
}

// P8.2

// checkRule: does Check tell this of memory, and change nothing?
func checkRule(t *testing.T, what string, h *heap.Heap, root api.Word, want int) {
	t.Helper()
	before := h.Clone()
	if got := Check(h, root); got != want || !h.Same(before) {
		t.Errorf("P8.2: %s: Check = %d, want %d", what, got, want)
	}
}

// fault: something that is done to sound memory, and what rule is broken then.
type fault struct {
	what string
	rule int
	do   func(w *world)
}

// tryFaults: each of them on new memory.
func tryFaults(t *testing.T, faults []fault) {
	t.Helper()
	for _, f := range faults {
		w := newWorld(t)
		f.do(w)
		checkRule(t, f.what, w.h, w.root, f.rule)
	}
}

func TestSound(t *testing.T) {
	w := newWorld(t)
	checkRule(t, "sound memory", w.h, w.root, 0)
	w.h.Tag(w.root)
	checkRule(t, "a hash", w.h, w.root, 0)
	checkRule(t, "another heap's root", w.h, w.ape, 3)
}

// The chapter's examples, and heaps in which there is nothing.
func TestCheckEmpty(t *testing.T) {
	empty, _ := heap.New(16)
	for _, root := range []api.Word{0, 1, 2, 3, 4, 6, 1 << 30, math.MaxUint64} {
		checkRule(t, "an empty heap", empty, root, 3)
		if got := Check(nil, root); got != 3 {
			t.Errorf("P8.2: Check of no heap = %d", got)
		}
	}
	h, _ := heap.New(16)
	w, _ := h.Alloc(4, head.Slots, 1, 0)
	checkRule(t, "a word 0", h, w, 1)
	h.Put(w, 0, 3)
	checkRule(t, "a number", h, w, 3)
	h.SetMark(w, true)
	checkRule(t, "a mark", h, w, 2)
	h.Put(w, 0, 6)
	checkRule(t, "a mark, and what is loose", h, w, 1)
}

func TestFirstRules(t *testing.T) {
	tryFaults(t, []fault{
		{"a word 0", 1, func(w *world) { w.h.Put(w.ape, 1, 0) }},
		{"a loose word", 1, func(w *world) { w.h.Put(w.ape, 1, w.ape+2) }},
		{"a word beyond memory", 1, func(w *world) { w.h.Put(w.ape, 1, 1<<40) }},
		{"a loose class", 1, func(w *world) { w.h.SetClass(w.ape, w.ape+2) }},
		{"a loose class of bytes", 1, func(w *world) { w.h.SetClass(w.text, w.ape+2) }},
		{"bytes like a word 0, or a loose one", 0, func(w *world) {
			for i := range 16 {
				w.h.PutByte(w.text, i, byte(i/8*6))
			}
		}},
		{"a mark", 2, func(w *world) { w.h.SetMark(w.ape, true) }},
		{"the root's mark", 2, func(w *world) { w.h.SetMark(w.root, true) }},
		{"the mark of bytes", 2, func(w *world) { w.h.SetMark(w.text, true) }},
		{"a mark that went", 0, func(w *world) { w.h.SetMark(w.text, true); w.h.SetMark(w.text, false) }},
		{"a number as root", 3, func(w *world) { w.root = 5 }},
		{"0 as root", 3, func(w *world) { w.root = 0 }},
		{"a root inside of an object", 3, func(w *world) { w.root += 2 }},
		{"a root of other fields", 3, func(w *world) { w.root = w.classes["Ape"] }},
		{"a root of one word less", 3, func(w *world) { w.root = w.without(w.root, Spare, Special) }},
		{"a root of one word more", 3, func(w *world) { w.root = w.insert(w.root, Special, 1) }},
		{"a root that is another one like it", 0, func(w *world) { w.root = w.insert(w.root, Special) }},
		{"a root of another class", 3, func(w *world) { w.h.SetClass(w.root, w.classes["Context"]) }},
		{"a root that is Fields", 3, func(w *world) {
			p := w.alloc(head.Fields, Special)
			for i := range Special {
				w.h.Put(p, i, w.special(i))
			}
			w.h.SetClass(p, w.classes["Array"])
			w.root = p
		}},
		{"another class of arrays", 3, func(w *world) { w.h.Put(w.root, ArrayClass, w.classes["Ape"]) }},
		{"a number as the class of arrays", 3, func(w *world) { w.h.Put(w.root, ArrayClass, 1) }},
		{"a number as nil", 3, func(w *world) { w.h.Put(w.root, Nil, 1) }},
		{"a number as true", 3, func(w *world) { w.h.Put(w.root, True, 1) }},
		{"a number as false", 3, func(w *world) { w.h.Put(w.root, False, 1) }},
		{"nil of another class", 3, func(w *world) { w.h.Put(w.root, Nil, w.special(True)) }},
		{"true of another class", 3, func(w *world) { w.h.Put(w.root, True, w.special(False)) }},
		{"false of another class", 3, func(w *world) { w.h.Put(w.root, False, w.special(Nil)) }},
		{"another class of nil", 3, func(w *world) { w.h.Put(w.root, NilClass, w.special(TrueClass)) }},
		{"a number as Globals", 3, func(w *world) { w.h.Put(w.root, Globals, 1) }},
		{"nil as Globals", 3, func(w *world) { w.h.Put(w.root, Globals, w.special(Nil)) }},
		{"a Context as Globals", 3, func(w *world) { w.h.SetClass(w.special(Globals), w.classes["Context"]) }},
		{"a number as Symbols", 3, func(w *world) { w.h.Put(w.root, Symbols, 1) }},
		{"a Context as Symbols", 3, func(w *world) { w.h.SetClass(w.special(Symbols), w.classes["Context"]) }},
		{"a number as Schedule", 3, func(w *world) { w.h.Put(w.root, Schedule, 1) }},
		{"nil as Schedule", 3, func(w *world) { w.h.Put(w.root, Schedule, w.special(Nil)) }},
		{"bytes of ArrayClass as Schedule", 3, func(w *world) { w.h.Put(w.root, Schedule, w.raw(w.classes["Array"], "12")) }},
		{"an empty Schedule", 0, func(w *world) { w.h.Put(w.root, Schedule, w.array()) }},
		{"another thing as what lacks, and as the spare one", 0, func(w *world) { w.h.Put(w.root, Lacks, 1); w.h.Put(w.root, Spare, w.ape) }},
	})
}

// place: that of a class's name in Globals.
func (w *world) place(name string) int {
	for i := 0; ; i += 2 {
		if w.get(w.root, Globals, i) == w.symbols[name] {
			return i
		}
	}
}

// globally: puts other Globals.
func globally(change func(w *world, g api.Word) api.Word) func(w *world) {
	return func(w *world) { w.h.Put(w.root, Globals, change(w, w.special(Globals))) }
}

func TestGlobals(t *testing.T) {
	faults := []fault{
		{"no Globals", 4, globally(func(w *world, g api.Word) api.Word { return w.array() })},
		{"a name with nothing behind it", 4, globally(func(w *world, g api.Word) api.Word {
			return w.insert(g, 36, w.symbol("doesNotUnderstand:"))
		})},
		{"a name without its class, in between", 4, globally(func(w *world, g api.Word) api.Word { return w.without(g, w.place("Zebra")+1, w.place("Zebra")+2) })},
		{"names that don't rise", 4, globally(func(w *world, g api.Word) api.Word { return w.swapped(w.swapped(g, 0, 2), 1, 3) })},
		{"the last names don't rise", 4, globally(func(w *world, g api.Word) api.Word { return w.swapped(w.swapped(g, 32, 34), 33, 35) })},
		{"a class twice", 4, globally(func(w *world, g api.Word) api.Word { return w.insert(g, 0, w.get(g, 0), w.get(g, 1)) })},
		{"a class by two names", 4, globally(func(w *world, g api.Word) api.Word { return w.insert(g, 36, w.symbol("a"), w.classes["Zebra"]) })},
		{"a name that is a string", 4, func(w *world) {
			name := w.raw(w.classes["String"], "Zebra")
			w.h.Put(w.classes["Zebra"], Name, name)
			w.h.Put(w.special(Globals), w.place("Zebra"), name)
		}},
		{"a name that is a number", 4, func(w *world) {
			w.h.Put(w.classes["Zebra"], Name, 5)
			w.h.Put(w.special(Globals), w.place("Zebra"), 5)
		}},
		{"a name that is no bytes", 4, func(w *world) {
			name := w.alloc(head.Slots, 0)
			w.h.SetClass(name, w.classes["Symbol"])
			w.h.Put(w.classes["Ape"], Name, name)
			w.h.Put(w.special(Globals), w.place("Ape"), name)
		}},
		{"a class with another name", 4, func(w *world) { w.h.Put(w.classes["Ape"], Name, w.symbols["Zebra"]) }},
		{"a class with a name of the same bytes", 4, func(w *world) { w.h.Put(w.classes["Ape"], Name, w.raw(w.classes["Symbol"], "Ape")) }},
		{"a number as a class", 4, func(w *world) { w.h.Put(w.special(Globals), w.place("Zebra")+1, 5) }},
		{"nil as a class", 4, func(w *world) { w.h.Put(w.special(Globals), w.place("Zebra")+1, w.special(Nil)) }},
		{"a class of Slots", 4, func(w *world) {
			c := w.array(w.classes["Ape"], w.array(), 1, w.symbols["Zebra"], w.array())
			w.h.Put(w.special(Globals), w.place("Zebra")+1, c)
		}},
		{"a class with a word more", 4, func(w *world) {
			c := w.put(w.alloc(head.Fields, 6), w.classes["Ape"], w.array(), 1, w.symbols["Zebra"], w.array())
			w.h.SetClass(c, w.classOf(w.classes["Zebra"]))
			w.h.Put(w.special(Globals), w.place("Zebra")+1, c)
		}},
		{"a class with a word less", 4, func(w *world) {
			c := w.put(w.alloc(head.Fields, 4), w.classes["Ape"], w.array(), 1, w.symbols["Zebra"])
			w.h.SetClass(c, w.classOf(w.classes["Zebra"]))
			w.h.Put(w.special(Globals), w.place("Zebra")+1, c)
		}},
		{"a class that isn't in Globals, and no other one's", 5, globally(func(w *world, g api.Word) api.Word {
			c := w.put(w.alloc(head.Fields, 5), w.classes["Ape"], w.array(), 1, w.symbol("a"), w.array())
			w.h.SetClass(c, w.classOf(w.classes["Ape"]))
			return w.insert(g, 36, w.symbols["a"], c)
		})},
		{"Globals without another class", 6, globally(func(w *world, g api.Word) api.Word { return w.without(g, w.place("Ape"), w.place("Ape")+2) })},
	}
	for i, name := range Kernel() {
		gone := func(w *world, g api.Word) api.Word { return w.without(g, w.place(name), w.place(name)+2) }
		faults = append(faults,
			fault{"Globals without " + name, 4, globally(gone)},
			fault{"another name of " + name, 4, func(w *world) { w.h.PutByte(w.symbols[name], len(name)-1, '~') }})
		if at := ObjectClass + i; (at < NilClass || at > FalseClass) && at != ArrayClass {
			faults = append(faults,
				fault{"another class at " + name, 4, func(w *world) { w.h.Put(w.root, ObjectClass+i, w.classes["Zebra"]) }},
				fault{"a number at " + name, 4, func(w *world) { w.h.Put(w.root, ObjectClass+i, 1) }})
		}
	}
	tryFaults(t, faults)
}

// ofMeta: does something to a class's class.
func ofMeta(name string, do func(w *world, m api.Word)) func(w *world) {
	return func(w *world) { do(w, w.classOf(w.classes[name])) }
}

func TestMetaclasses(t *testing.T) {
	tryFaults(t, []fault{
		{"a metaclass of two classes", 5, func(w *world) { w.h.SetClass(w.classes["Ape"], w.classOf(w.classes["Zebra"])) }},
		{"metaclasses of one another", 5, func(w *world) {
			ape, zebra := w.classOf(w.classes["Ape"]), w.classOf(w.classes["Zebra"])
			w.h.SetClass(w.classes["Ape"], zebra)
			w.h.SetClass(w.classes["Zebra"], ape)
		}},
		{"a metaclass with another class's name", 5, ofMeta("Ape", func(w *world, m api.Word) { w.h.Put(m, Name, w.classes["Zebra"]) })},
		{"a metaclass with a symbol as its name", 5, ofMeta("Ape", func(w *world, m api.Word) { w.h.Put(m, Name, w.symbols["Ape"]) })},
		{"a metaclass of another class", 5, ofMeta("Ape", func(w *world, m api.Word) { w.h.SetClass(m, w.classes["Class"]) })},
		{"the last class's metaclass of another class", 5, ofMeta("Zebra", func(w *world, m api.Word) { w.h.SetClass(m, m) })},
		{"no metaclass", 5, func(w *world) { w.h.SetClass(w.classes["Ape"], w.classes["Metaclass"]) }},
		{"a metaclass of Slots", 5, func(w *world) {
			m := w.array(w.classOf(w.classes["Object"]), w.array(), 41, w.classes["Ape"], w.array())
			w.h.SetClass(m, w.classes["Metaclass"])
			w.h.SetClass(w.classes["Ape"], m)
		}},
		{"a metaclass with a word more", 5, func(w *world) {
			m := w.put(w.alloc(head.Fields, 6), w.classOf(w.classes["Object"]), w.array(), 41, w.classes["Ape"], w.array())
			w.h.SetClass(m, w.classes["Metaclass"])
			w.h.SetClass(w.classes["Ape"], m)
		}},
		{"another metaclass", 6, func(w *world) {
			m := w.put(w.alloc(head.Fields, 5), w.classOf(w.classes["Object"]), w.array(), 41, w.classes["Ape"], w.array())
			w.h.SetClass(m, w.classes["Metaclass"])
			w.h.SetClass(w.classes["Ape"], m)
		}},
		{"another metaclass, whose class's other ones follow", 0, func(w *world) {
			m := w.put(w.alloc(head.Fields, 5), w.classOf(w.classes["Object"]), w.array(), 41, w.classes["Ape"], w.array())
			w.h.SetClass(m, w.classes["Metaclass"])
			w.h.SetClass(w.classes["Ape"], m)
			w.h.Put(w.classOf(w.classes["Zebra"]), Super, m)
		}},
	})
}

// below: puts a class below another one, and its class below that one's.
func (w *world) below(name, super string) {
	w.h.Put(w.classes[name], Super, w.classes[super])
	w.h.Put(w.classOf(w.classes[name]), Super, w.classOf(w.classes[super]))
}

func TestWaysUp(t *testing.T) {
	tryFaults(t, []fault{
		{"a class below another one", 0, func(w *world) { w.below("Context", "Zebra") }},
		{"a ring of one class", 6, func(w *world) { w.below("Ape", "Ape") }},
		{"a ring of two classes", 6, func(w *world) { w.below("Ape", "Zebra") }},
		{"a ring of three classes, and one below it", 6, func(w *world) {
			w.below("Ape", "Message")
			w.below("Message", "Zebra")
			w.below("Array", "Zebra")
		}},
		{"a ring with Object", 6, func(w *world) { w.h.Put(w.classes["Object"], Super, w.classes["Ape"]) }},
		{"Object above itself", 6, func(w *world) { w.h.Put(w.classes["Object"], Super, w.classes["Object"]) }},
		{"another class with nil", 6, func(w *world) { w.h.Put(w.classes["Ape"], Super, w.special(Nil)) }},
		{"another class with nil, its class below Class", 6, func(w *world) {
			w.h.Put(w.classes["Ape"], Super, w.special(Nil))
			w.h.Put(w.classOf(w.classes["Ape"]), Super, w.classes["Class"])
		}},
		{"another class with nil, its class below nil's", 6, func(w *world) {
			w.h.Put(w.classes["Ape"], Super, w.special(Nil))
			w.h.Put(w.classOf(w.classes["Ape"]), Super, w.classes["UndefinedObject"])
		}},
		{"a number above a class", 6, func(w *world) { w.h.Put(w.classes["Ape"], Super, 1) }},
		{"true above a class", 6, func(w *world) {
			w.h.Put(w.classes["Zebra"], Super, w.special(True))
			w.h.Put(w.classOf(w.classes["Zebra"]), Super, w.classes["True"])
		}},
		{"a metaclass above a class", 6, func(w *world) {
			w.h.Put(w.classes["Zebra"], Super, w.classOf(w.classes["Ape"]))
			w.h.Put(w.classOf(w.classes["Zebra"]), Super, w.classes["Metaclass"])
		}},
		{"a class alone below another one", 6, func(w *world) { w.h.Put(w.classes["Zebra"], Super, w.classes["Message"]) }},
		{"a metaclass alone below another one", 6, ofMeta("Zebra", func(w *world, m api.Word) { w.h.Put(m, Super, w.classOf(w.classes["Message"])) })},
		{"a metaclass below a class", 6, ofMeta("Zebra", func(w *world, m api.Word) { w.h.Put(m, Super, w.classes["Ape"]) })},
		{"a metaclass below nil", 6, ofMeta("Zebra", func(w *world, m api.Word) { w.h.Put(m, Super, w.special(Nil)) })},
		{"a metaclass below a number", 6, ofMeta("Zebra", func(w *world, m api.Word) { w.h.Put(m, Super, 1) })},
		{"Object's class below nil", 6, ofMeta("Object", func(w *world, m api.Word) { w.h.Put(m, Super, w.special(Nil)) })},
		{"Object's class below Object", 6, ofMeta("Object", func(w *world, m api.Word) { w.h.Put(m, Super, w.classes["Object"]) })},
		{"Object's class below Class's", 6, ofMeta("Object", func(w *world, m api.Word) { w.h.Put(m, Super, w.classOf(w.classes["Class"])) })},
	})
}

// symbolically: puts other Symbols.
func symbolically(change func(w *world, s api.Word) api.Word) func(w *world) {
	return func(w *world) { w.h.Put(w.root, Symbols, change(w, w.special(Symbols))) }
}

func TestSymbols(t *testing.T) {
	tryFaults(t, []fault{
		{"no Symbols", 7, symbolically(func(w *world, s api.Word) api.Word { return w.array() })},
		{"the first one is lacking", 7, symbolically(func(w *world, s api.Word) api.Word { return w.without(s, 0, 1) })},
		{"the last one is lacking", 7, symbolically(func(w *world, s api.Word) api.Word { return w.without(s, len(w.symbols)-1, len(w.symbols)) })},
		{"one twice", 7, symbolically(func(w *world, s api.Word) api.Word { return w.insert(s, 3, w.get(s, 3)) })},
		{"one twice, another one not at all", 7, symbolically(func(w *world, s api.Word) api.Word {
			return w.changed(s, func(words []api.Word) []api.Word { words[3] = words[4]; return words })
		})},
		{"out of order", 7, symbolically(func(w *world, s api.Word) api.Word { return w.swapped(s, 0, 1) })},
		{"the last ones out of order", 7, symbolically(func(w *world, s api.Word) api.Word {
			return w.swapped(s, len(w.symbols)-1, len(w.symbols)-2)
		})},
		{"a number more", 7, symbolically(func(w *world, s api.Word) api.Word { return w.insert(s, 0, 1) })},
		{"nil more", 7, symbolically(func(w *world, s api.Word) api.Word { return w.insert(s, len(w.symbols), w.special(Nil)) })},
		{"a string more", 7, symbolically(func(w *world, s api.Word) api.Word {
			return w.insert(s, len(w.symbols), w.raw(w.classes["String"], "~"))
		})},
		{"a string instead of a symbol that isn't there", 7, symbolically(func(w *world, s api.Word) api.Word {
			w.raw(w.classes["Symbol"], "~")
			return w.insert(s, len(w.symbols), w.raw(w.classes["String"], "~"))
		})},
		{"a symbol that isn't there", 7, func(w *world) { w.raw(w.classes["Symbol"], "~") }},
		{"a symbol more, there", 0, symbolically(func(w *world, s api.Word) api.Word {
			return w.insert(s, len(w.symbols), w.raw(w.classes["Symbol"], "~"))
		})},
		{"a symbol without bytes, there", 0, symbolically(func(w *world, s api.Word) api.Word { return w.insert(s, 0, w.raw(w.classes["Symbol"], "")) })},
		{"a symbol of the greatest bytes, there", 0, symbolically(func(w *world, s api.Word) api.Word {
			return w.insert(s, len(w.symbols), w.raw(w.classes["Symbol"], "\xff\x00"))
		})},
		{"two of the same bytes", 7, symbolically(func(w *world, s api.Word) api.Word {
			return w.insert(s, len(w.symbols), w.raw(w.classes["Symbol"], "~"), w.raw(w.classes["Symbol"], "~"))
		})},
		{"a symbol of Slots", 7, symbolically(func(w *world, s api.Word) api.Word {
			p := w.alloc(head.Slots, 0)
			w.h.SetClass(p, w.classes["Symbol"])
			return w.insert(s, 0, p)
		})},
		{"a symbol of other bytes", 7, func(w *world) { w.h.PutByte(w.symbols["foo"], 0, '!') }},
	})
}

// format: puts a class's Format.
func format(name string, word api.Word) func(w *world) {
	return func(w *world) { w.h.Put(w.classes[name], Format, word) }
}

func TestFormats(t *testing.T) {
	tryFaults(t, []fault{
		{"another count of fields", 8, format("Ape", 2*4*3+1)},
		{"another kind", 8, format("Ape", 2*9+1)},
		{"no kind at all", 8, format("Ape", 2*11+1)},
		{"a Format that is nil", 8, func(w *world) { w.h.Put(w.classes["Ape"], Format, w.special(Nil)) }},
		{"a Format below 0", 8, format("Ape", math.MaxUint64)},
		{"a Format below 0 whose rest is the Kind", 8, format("Array", math.MaxUint64-4)},
		{"bytes whose class counts fields", 0, format("String", 2*(4*7+2)+1)},
		{"slots whose class counts fields", 0, format("Context", 2*(4*api.MaxObject-3)+1)},
		{"slots of the greatest Format, and more", 8, format("Context", 2*(4*api.MaxObject+1)+1)},
		{"slots of a Format that is far too great", 8, format("Context", 1<<62+3)},
		{"fields of the greatest Format", 8, format("Ape", 2*(4*api.MaxObject)+1)},
		{"a class of which there are none", 0, func(w *world) { w.h.Put(w.classes["Message"], Format, w.special(Nil)) }},
		{"another Format of classes", 8, ofMeta("Ape", func(w *world, m api.Word) { w.h.Put(m, Format, 2*24+1) })},
		{"another Format of metaclasses", 8, format("Metaclass", 2*24+1)},
		{"an object of another class than those", 8, func(w *world) {
			c := w.put(w.alloc(head.Fields, 5), w.classes["Ape"], w.array(), 2*8+1, w.symbols["Ape"], w.array())
			w.h.SetClass(c, w.classOf(w.classes["Ape"]))
			w.h.SetClass(w.ape, c)
		}},
		{"an object whose class is no class", 8, func(w *world) { w.h.SetClass(w.ape, w.special(True)) }},
		{"fields one less", 8, func(w *world) { w.h.SetClass(w.alloc(head.Fields, 1), w.classes["Ape"]) }},
		{"fields one more", 8, func(w *world) { w.h.SetClass(w.alloc(head.Fields, 3), w.classes["Ape"]) }},
		{"just as many slots", 8, func(w *world) { w.h.SetClass(w.alloc(head.Slots, 2), w.classes["Ape"]) }},
		{"just as many bytes", 8, func(w *world) { w.h.SetClass(w.alloc(head.Raw, 2), w.classes["Ape"]) }},
		{"slots as bytes", 8, func(w *world) { w.h.SetClass(w.alloc(head.Slots, 2), w.classes["String"]) }},
		{"a number's object", 0, func(w *world) { w.h.SetClass(w.alloc(head.Fields, 0), w.classes["SmallInteger"]) }},
		{"an object of fields without number", 8, func(w *world) { w.h.SetClass(w.alloc(head.Fields, 0), w.classes["Array"]) }},
		{"another class's other instance", 5, func(w *world) { w.h.SetClass(w.classes["Ape"], w.classOf(w.classes["Object"])) }},
		{"another instance of a metaclass", 0, func(w *world) { w.h.SetClass(w.alloc(head.Fields, 5), w.classOf(w.classes["Ape"])) }},
		{"another metaclass", 0, func(w *world) { w.h.SetClass(w.alloc(head.Fields, 5), w.classes["Metaclass"]) }},
	})
}

// The greatest object that fields may make.
func TestGreatestFormat(t *testing.T) {
	w := newWorld(t)
	h, e := heap.Load(api.MaxObject+6000, 0, w.h.Words()...)
	if e != api.OK {
		t.Fatalf("heap.Load: %d", e)
	}
	h.Put(w.classes["Message"], Format, 2*4*api.MaxObject+1)
	if _, e := h.Alloc(w.classes["Message"], head.Fields, api.MaxObject, 1); e != api.OK {
		t.Fatalf("heap.Alloc: %d", e)
	}
	checkRule(t, "the greatest Format", h, w.root, 0)
}

// part: puts a class's, or a metaclass's, Methods or Vars.
func part(i int, list func(w *world, old api.Word) api.Word) []func(w *world) {
	put := func(w *world, m api.Word) { w.h.Put(m, i, list(w, w.get(m, i))) }
	return []func(w *world){
		ofMeta("Ape", put), ofMeta("Zebra", put), ofMeta("Object", put),
		func(w *world) { put(w, w.classes["Ape"]) }, func(w *world) { put(w, w.classes["Zebra"]) }, func(w *world) { put(w, w.classes["Object"]) },
	}
}

func TestMethodsVars(t *testing.T) {
	for _, f := range []struct {
		what string
		rule int
		dos  []func(w *world)
	}{
		{"a number as Methods", 9, part(Methods, func(w *world, old api.Word) api.Word { return 1 })},
		{"nil as Methods", 9, part(Methods, func(w *world, old api.Word) api.Word { return w.special(Nil) })},
		{"a Context as Methods", 9, part(Methods, func(w *world, old api.Word) api.Word { w.h.SetClass(old, w.classes["Context"]); return old })},
		{"no Methods", 0, part(Methods, func(w *world, old api.Word) api.Word { return w.array() })},
		{"other Methods", 0, part(Methods, func(w *world, old api.Word) api.Word { return w.methods("+", "Ape", "a", "at:put:", "foo") })},
		{"a symbol without its method", 9, part(Methods, func(w *world, old api.Word) api.Word { return w.array(w.symbols["foo"]) })},
		{"the last symbol without its method", 9, part(Methods, func(w *world, old api.Word) api.Word { return w.insert(w.methods("a"), 2, w.symbols["foo"]) })},
		{"symbols that don't rise", 9, part(Methods, func(w *world, old api.Word) api.Word { return w.methods("foo", "a") })},
		{"a symbol twice", 9, part(Methods, func(w *world, old api.Word) api.Word { return w.methods("a", "foo", "foo") })},
		{"a string as symbol", 9, part(Methods, func(w *world, old api.Word) api.Word {
			return w.changed(w.methods("a"), func(words []api.Word) []api.Word { words[0] = w.text; return words })
		})},
		{"a number as symbol", 9, part(Methods, func(w *world, old api.Word) api.Word {
			return w.changed(w.methods("a"), func(words []api.Word) []api.Word { words[0] = 3; return words })
		})},
		{"a number as method", 9, part(Methods, func(w *world, old api.Word) api.Word {
			return w.changed(w.methods("a", "foo"), func(words []api.Word) []api.Word { words[3] = 3; return words })
		})},
		{"an array as method", 9, part(Methods, func(w *world, old api.Word) api.Word {
			return w.changed(w.methods("a", "foo"), func(words []api.Word) []api.Word { words[1] = old; return words })
		})},
		{"a number as Vars", 9, part(Vars, func(w *world, old api.Word) api.Word { return 1 })},
		{"a symbol as Vars", 9, part(Vars, func(w *world, old api.Word) api.Word { return w.symbols["foo"] })},
		{"a Context as Vars", 9, part(Vars, func(w *world, old api.Word) api.Word { w.h.SetClass(old, w.classes["Context"]); return old })},
		{"no Vars", 0, part(Vars, func(w *world, old api.Word) api.Word { return w.array() })},
		{"Vars that don't rise, and more than there are fields", 0, part(Vars, func(w *world, old api.Word) api.Word { return w.list("foo", "a", "foo") })},
		{"a string in Vars", 9, part(Vars, func(w *world, old api.Word) api.Word { return w.array(w.symbols["foo"], w.text) })},
		{"a number in Vars", 9, part(Vars, func(w *world, old api.Word) api.Word { return w.array(3, w.symbols["foo"]) })},
		{"nil in Vars", 9, part(Vars, func(w *world, old api.Word) api.Word { return w.array(w.special(Nil)) })},
	} {
		for _, do := range f.dos {
			tryFaults(t, []fault{{f.what, f.rule, do}})
		}
	}
}

// Of two broken rules the least is told, whichever was broken first.
func TestTwoBroken(t *testing.T) {
	breaks := []func(w *world){
		func(w *world) { w.h.Put(w.ape, 0, 0) },
		func(w *world) { w.h.SetMark(w.ape, true) },
		func(w *world) { w.h.Put(w.root, Schedule, 1) },
		func(w *world) { w.h.Put(w.classes["Message"], Name, 1) },
		func(w *world) { w.h.SetClass(w.classes["Block"], w.classOf(w.classes["Process"])) },
		func(w *world) { w.below("Ape", "Zebra") },
		func(w *world) { w.raw(w.classes["Symbol"], "foo") },
		format("Context", 2*7+1),
		func(w *world) { w.h.Put(w.classes["False"], Vars, 1) },
	}
	for i, first := range breaks {
		for j, second := range breaks {
			w := newWorld(t)
			first(w)
			second(w)
			checkRule(t, "two rules", w.h, w.root, 1+min(i, j))
		}
	}
}

// A long way up: it ends soon enough, as what was walked once isn't walked again.
func TestLongWay(t *testing.T) {
	w := newWorld(t)
	const count = 20000
	h, e := heap.Load(1<<20, 0, w.h.Words()...)
	if e != api.OK {
		t.Fatalf("heap.Load: %d", e)
	}
	w.h = h
	above := "Zebra"
	for i := range count {
		name := "x" + string([]rune{rune('0' + i/1000%100), rune('0' + i/100%10), rune('0' + i/10%10), rune('0' + i%10)})
		c := w.alloc(head.Fields, Parts)
		w.classes[name] = c
		w.h.SetClass(c, w.alloc(head.Fields, Parts))
		w.class(plan{name: name, super: above, format: 12})
		above = name
	}
	w.h.Put(w.root, Globals, w.globals())
	w.h.Put(w.root, Symbols, w.allSymbols())
	checkRule(t, "a long way up", w.h, w.root, 0)
	w.below("Ape", above)
	checkRule(t, "a long ring", w.h, w.root, 6)
}
