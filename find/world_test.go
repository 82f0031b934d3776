package find

import (
	"cmp"
	"maps"
	"math/rand"
	"slices"
	"strconv"
	"strings"
	"testing"

	"foundling/api"
	"foundling/boot"
	"foundling/heap"
	"foundling/sema"
	"foundling/sound"
)

// class: what a class, or a class's class, has, read of the memory word by word.
type class struct {
	name    string // " class" behind that of a class's class
	super   string
	methods map[string]api.Word
}

// world: a Smalltalk's memory, and what is known of it without this package.
type world struct {
	t       *testing.T
	h       *heap.Heap
	root    api.Word
	words   map[string]api.Word // of classes, and classes' classes
	classes map[string]class
	symbols map[string]api.Word
}

func definition(name, super, fields string) string {
	if super == "" {
		super = "nil"
	}
	return super + " subclass: #" + name + " fields: '" + fields + "'!\n"
}

// newWorld: the memory of the kernel and these files.
func newWorld(t *testing.T, files ...string) *world {
	t.Helper()
	for _, c := range sema.Kernel() {
		files = append(files, definition(c.Name, c.Super, strings.Join(c.Own, " ")))
	}
	p, problems := sema.Build(strings.Join(files, ""))
	if len(problems) > 0 {
		t.Fatalf("no program: %v\n%.3000s", problems, files)
	}
	h, root, e := boot.Build(p, 100000)
	if e != api.OK {
		t.Fatalf("boot.Build: %d", e)
	}
	w := &world{t: t, h: h, root: root}
	w.learn()
	w.supers(p)
	return w
}

// learn: what the memory has.
func (w *world) learn() {
	w.words, w.classes, w.symbols = map[string]api.Word{}, map[string]class{}, map[string]api.Word{}
	for _, s := range w.list(w.special(sound.Symbols)) {
		w.symbols[w.text(s)] = s
	}
	globals := w.list(w.special(sound.Globals))
	for i := 0; i < len(globals); i += 2 {
		name, c := w.text(globals[i]), globals[i+1]
		d, _ := w.h.Head(c)
		for name, c := range map[string]api.Word{name: c, name + " class": d.Class} {
			w.words[name] = c
			w.classes[name] = class{name: name, methods: w.methods(c)}
		}
	}
}

// supers: ways up, as the program has them.
func (w *world) supers(p sema.Program) {
	for _, c := range p.Classes {
		k, m := w.classes[c.Name], w.classes[c.Name+" class"]
		k.super, m.super = c.Super, c.Super+" class"
		if c.Super == "" {
			m.super = "Class"
		}
		w.classes[c.Name], w.classes[c.Name+" class"] = k, m
	}
}

func (w *world) methods(c api.Word) map[string]api.Word {
	methods, _ := w.h.Get(c, sound.Methods)
	out := map[string]api.Word{}
	list := w.list(methods)
	for i := 0; i < len(list); i += 2 {
		out[w.text(list[i])] = list[i+1]
	}
	return out
}

func (w *world) special(i int) api.Word {
	x, _ := w.h.Get(w.root, i)
	return x
}

func (w *world) list(p api.Word) []api.Word {
	d, _ := w.h.Head(p)
	out := make([]api.Word, d.Size)
	for i := range out {
		out[i], _ = w.h.Get(p, i)
	}
	return out
}

func (w *world) text(p api.Word) string {
	b, _ := w.h.Bytes(p)
	return string(b)
}

// names: of all classes and classes' classes, rising.
func (w *world) names() []string { return slices.Sorted(maps.Keys(w.classes)) }

// way: the names from a class up.
func (w *world) way(name string) []string {
	var out []string
	for name != "" {
		out = append(out, name)
		name = w.classes[name].super
	}
	return out
}

// lookup: what Lookup has to answer.
func (w *world) lookup(name, message string) (api.Word, int, bool) {
	for up, c := range w.way(name) {
		if method, isThere := w.classes[c].methods[message]; isThere {
			return method, up, true
		}
	}
	return 0, 0, false
}

// all: what All has to answer.
func (w *world) all(name string) []api.Word {
	texts := map[string]int{}
	for _, c := range w.way(name) {
		for text := range w.classes[c].methods {
			texts[text]++
		}
	}
	var out []api.Word
	for _, text := range slices.SortedFunc(maps.Keys(texts), func(a, b string) int { return cmp.Compare(a, b) }) {
		out = append(out, w.symbols[text])
	}
	return out
}

// sound: is the memory so, and as it was?
func (w *world) sound(before *heap.Heap) {
	w.t.Helper()
	if n := sound.Check(w.h, w.root); n != 0 {
		w.t.Fatalf("the memory breaks rule %d", n)
	}
	if !w.h.Same(before) {
		w.t.Errorf("the memory has changed")
	}
}

// check: all answers, of all classes and symbols.
func (w *world) check() {
	w.t.Helper()
	before := w.h.Clone()
	for _, name := range w.names() {
		c := w.words[name]
		for text, symbol := range w.symbols {
			method, up, ok := Lookup(w.h, w.root, c, symbol)
			if m, n, isThere := w.lookup(name, text); method != m || up != n || ok != isThere {
				w.t.Errorf("P19.1: Lookup of %q in %s: %x, %d, %v; want %x, %d, %v", text, name, method, up, ok, m, n, isThere)
			}
		}
		for _, other := range w.names() {
			if got, want := Kin(w.h, w.root, c, w.words[other]), slices.Contains(w.way(name), other); got != want {
				w.t.Errorf("P19.3: Kin(%s, %s) = %v", name, other, got)
			}
		}
		if got, want := All(w.h, w.root, c), w.all(name); !slices.Equal(got, want) {
			w.t.Errorf("P19.3: All(%s) = %x, want %x", name, got, want)
		}
	}
	w.sound(before)
}

// maker: of programs by chance.
type maker struct{ *rand.Rand }

func (m maker) one(list ...string) string { return list[m.Intn(len(list))] }

// file: classes above one another, and methods of few names, so that many of them stand above one another.
func (m maker) file() string {
	var b strings.Builder
	classes := []string{"Object", "String", "Symbol", "Array", "Class", "Metaclass", "UndefinedObject", "SmallInteger"}
	supers := []string{"Object", "Array", "Message"}
	for i := range m.Intn(8) {
		name := "C" + strconv.Itoa(i)
		b.WriteString(definition(name, m.one(supers...), ""))
		classes, supers = append(classes, name), append(supers, name)
	}
	names := []string{"a", "b", "A", "ab", "a1", "+ x", "- x", "-> x", "a: x", "a: x b: y", "start", "z9", "new", "Object"}
	for _, c := range classes {
		for _, side := range []string{"", " class"} {
			if m.Intn(3) == 0 {
				continue
			}
			b.WriteString(c + side + " methods!\n")
			for _, i := range m.Perm(len(names))[:m.Intn(6)] {
				b.WriteString(names[i] + " ^#" + m.one("a", "q", "+") + "!\n")
			}
			b.WriteString(" !\n")
		}
	}
	return b.String()
}
