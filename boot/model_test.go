package boot

import (
	"maps"
	"math/rand"
	"slices"
	"strconv"
	"strings"
	"testing"

	"foundling/api"
	"foundling/gen"
	"foundling/head"
	"foundling/heap"
	"foundling/scope"
	"foundling/sema"
	"foundling/sound"
)

// kernelFile: the classes that must be there.
func kernelFile() string {
	var b strings.Builder
	for _, c := range sema.Kernel() {
		b.WriteString(definition(c.Name, c.Super, strings.Join(c.Own, " ")))
	}
	return b.String()
}

func definition(name, super, fields string) string {
	if super == "" {
		super = "nil"
	}
	return super + " subclass: #" + name + " fields: '" + fields + "'!\n"
}

// program: of the kernel and these files.
func program(t *testing.T, files ...string) sema.Program {
	t.Helper()
	p, problems := sema.Build(append([]string{kernelFile()}, files...)...)
	if len(problems) > 0 {
		t.Fatalf("the files are no program: %v\n%.2000s", problems, files)
	}
	return p
}

// reader: reads a program's memory, object by object, and puts down each that it has met.
type reader struct {
	t       *testing.T
	h       *heap.Heap
	root    api.Word
	met     map[api.Word]string
	cells   int
	classes map[string]api.Word
	symbols map[string]api.Word
}

// meet: an object, which is this, and wasn't met yet; with the words that it has, if it isn't bytes.
func (r *reader) meet(what string, w api.Word, class string, kind, size int) []api.Word {
	r.t.Helper()
	d, e := r.h.Head(w)
	if before, isMet := r.met[w]; isMet || e != api.OK {
		r.t.Fatalf("P18.1: %s, %x, is %s, too; %d", what, w, before, e)
	}
	r.met[w] = what
	if size < 0 {
		size = d.Size
	}
	if want := (head.Head{Class: r.classes[class], Kind: kind, Size: size}); d != want {
		r.t.Fatalf("P18.1: %s is %+v, want %+v", what, d, want)
	}
	r.cells += 2 + head.Cells(d)
	if kind == head.Raw {
		return nil
	}
	return r.words(w)
}

func (r *reader) words(w api.Word) []api.Word {
	d, _ := r.h.Head(w)
	out := make([]api.Word, d.Size)
	for i := range out {
		out[i], _ = r.h.Get(w, i)
	}
	return out
}

func (r *reader) text(w api.Word) string {
	b, _ := r.h.Bytes(w)
	return string(b)
}

// symbol: the text of one that was met.
func (r *reader) symbol(w api.Word) string {
	r.t.Helper()
	s := r.text(w)
	if r.symbols[s] != w {
		r.t.Fatalf("P18.1: %x, %q, is no symbol", w, s)
	}
	return s
}

func valueOf(w api.Word) int64 {
	if w%2 == 0 {
		return -1 << 63
	}
	return int64(w) >> 1
}

// array: an Array that is met now.
func (r *reader) array(what string, w api.Word) []api.Word {
	r.t.Helper()
	return r.meet(what, w, "Array", head.Slots, -1)
}

// read: the program that a memory has; all that is in it has to be met just once.
func read(t *testing.T, h *heap.Heap, root api.Word) sema.Program {
	t.Helper()
	r := &reader{t: t, h: h, root: root, met: map[api.Word]string{}, classes: map[string]api.Word{}, symbols: map[string]api.Word{}}
	words := r.words(root)
	if len(words) != 24 {
		t.Fatalf("P18.1: the root has %d words", len(words))
	}
	globals := r.words(words[3])
	for i := 0; i < len(globals); i += 2 {
		r.classes[r.text(globals[i])] = globals[i+1]
	}
	r.array("the root", root)
	r.array("Globals", words[3])
	for _, w := range r.array("Symbols", words[4]) {
		r.meet("a symbol", w, "Symbol", head.Raw, -1)
		r.symbols[r.text(w)] = w
	}
	for i, class := range []string{"UndefinedObject", "True", "False"} {
		r.meet("nil, true or false", words[i], class, head.Fields, 0)
	}
	for i, name := range sound.Kernel() {
		if c := r.classes[name]; c == 0 || c != words[5+i] {
			t.Errorf("P18.1: the root's word %d is %x, %s is %x", 5+i, words[5+i], name, c)
		}
	}
	if words[23] != words[0] || r.symbol(words[22]) != "doesNotUnderstand:" {
		t.Errorf("P18.1: Spare is %x, Lacks %q", words[23], r.text(words[22]))
	}
	var p sema.Program
	for _, name := range slices.Sorted(maps.Keys(r.classes)) {
		p.Classes = append(p.Classes, r.class(name))
	}
	r.all(&p)
	r.start(words[21], words[0])
	r.whole()
	return p
}

// class: with its class.
func (r *reader) class(name string) sema.Class {
	r.t.Helper()
	w := r.classes[name]
	d, _ := r.h.Head(w)
	meta := d.Class
	r.classes[name+" class"] = meta
	words := r.meet(name, w, name+" class", head.Fields, 5)
	metaWords := r.meet(name+" class", meta, "Metaclass", head.Fields, 5)
	c := sema.Class{Name: r.symbol(words[3]), Methods: r.methods(words[1], w), Metas: r.methods(metaWords[1], meta)}
	above := r.classes["Class"]
	nothing, _ := r.h.Get(r.root, 0)
	if words[0] != nothing {
		for up, x := range r.classes {
			if x == words[0] {
				c.Super = up
			}
		}
		d, _ := r.h.Head(words[0])
		above = d.Class
	}
	for _, x := range r.array("Vars of "+name, words[4]) {
		c.Own = append(c.Own, r.symbol(x))
	}
	if vars := r.array("Vars of "+name+" class", metaWords[4]); metaWords[0] != above || valueOf(metaWords[2]) != 20 || metaWords[3] != w || len(vars) > 0 {
		r.t.Errorf("P18.1: %s class has %x, %d of Vars", name, metaWords, len(vars))
	}
	c.Kind = int(valueOf(words[2]))
	return c
}

// all: fields and Kinds, of which the memory has only counts.
func (r *reader) all(p *sema.Program) {
	var of func(name string) []string
	of = func(name string) []string {
		for _, c := range p.Classes {
			if c.Name == name {
				return append(of(c.Super), c.Own...)
			}
		}
		return nil
	}
	for i := range p.Classes {
		c := &p.Classes[i]
		c.All = of(c.Name)
		c.Kind -= 4 * len(c.All)
	}
}

func (r *reader) methods(list, holder api.Word) []gen.Out {
	r.t.Helper()
	words := r.array("a list of methods", list)
	var out []gen.Out
	for i := 0; i < len(words); i += 2 {
		out = append(out, r.method(words[i], words[i+1], holder))
	}
	return out
}

func (r *reader) method(name, w, holder api.Word) gen.Out {
	r.t.Helper()
	words := r.meet("a method", w, "Method", head.Fields, 5)
	if words[3] != name || words[4] != holder {
		r.t.Errorf("P18.1: a method is %x, of the name %x and holder %x", words, name, holder)
	}
	n := valueOf(words[0])
	o := gen.Out{Name: r.symbol(name), Args: int(n % 16), Slots: int(n / 16 % 64), Stack: int(n / 1024 % 256), Prim: int(n / 262144)}
	for _, x := range r.array("literals", words[1]) {
		o.Lits = append(o.Lits, r.literal(x))
	}
	r.meet("code", words[2], "String", head.Raw, -1)
	o.Code = []byte(r.text(words[2]))
	return o
}

// literal: Texts and Lists are met here, and nowhere else.
func (r *reader) literal(w api.Word) scope.Item {
	r.t.Helper()
	if w%2 == 1 {
		return scope.Item{Kind: scope.Int, Num: valueOf(w)}
	}
	for i, kind := range []int{scope.Nil, scope.True, scope.False} {
		if x, _ := r.h.Get(r.root, i); x == w {
			return scope.Item{Kind: kind}
		}
	}
	for name, x := range r.classes {
		if x == w && !strings.HasSuffix(name, " class") {
			return scope.Item{Kind: scope.Global, Name: name}
		}
	}
	d, _ := r.h.Head(w)
	switch d.Class {
	case r.classes["Symbol"]:
		return scope.Item{Kind: scope.Symbol, Name: r.symbol(w)}
	case r.classes["String"]:
		r.meet("a text", w, "String", head.Raw, -1)
		return scope.Item{Kind: scope.Text, Name: r.text(w)}
	}
	x := scope.Item{Kind: scope.List}
	for _, kid := range r.array("a literal array", w) {
		x.Kids = append(x.Kids, r.literal(kid))
	}
	return x
}

// start: the schedule, and what runs first.
func (r *reader) start(schedule, nothing api.Word) {
	r.t.Helper()
	words := r.meet("the schedule", schedule, "Array", head.Slots, 12)
	process := r.meet("the first process", words[0], "Process", head.Fields, 4)
	for i, w := range words[1:] {
		if w != nothing {
			r.t.Errorf("P18.1: the schedule's word %d is %x", i+1, w)
		}
	}
	context := r.meet("the first context", process[0], "Context", head.Slots, 7)
	if valueOf(process[1]) != 3 || process[2] != nothing || process[3] != nothing {
		r.t.Errorf("P18.1: the first process is %x", process)
	}
	if want := []api.Word{nothing, 1, 1, context[3], nothing, nothing, 1}; !slices.Equal(context, want) {
		r.t.Errorf("P18.1: the first context is %x, want %x", context, want)
	}
	o := r.method(r.symbols["start"], context[3], r.classes["UndefinedObject"])
	// PushNil, Send 0 0, Return.
	if o.Name != "start" || o.Args != 0 || o.Slots != 0 || o.Prim != 0 || o.Stack != 1 || string(o.Code) != "\x01\x0c\x00\x00\x12" || len(o.Lits) != 1 || o.Lits[0].Kind != scope.Symbol || o.Lits[0].Name != "start" {
		r.t.Errorf("P18.1: the first method is %+v", o)
	}
}

// whole: is that all, and is nothing tagged or marked?
func (r *reader) whole() {
	r.t.Helper()
	for w := r.h.First(); w != 0; w = r.h.After(w) {
		d, _ := r.h.Head(w)
		if _, isMet := r.met[w]; !isMet || d.Hash != 0 || d.Mark {
			r.t.Errorf("P18.1: an object %x of no use, or tagged, or marked: %+v", w, d)
		}
	}
	if r.h.Used() != r.cells+2 || r.h.Last() != 0 {
		r.t.Errorf("P18.3: %d cells are used, want %d; the last hash is %d", r.h.Used(), r.cells+2, r.h.Last())
	}
}

// named: the texts that have to be symbols.
func named(p sema.Program) []string {
	all := map[string]int{"start": 1, "doesNotUnderstand:": 1}
	var lits func(list []scope.Item)
	lits = func(list []scope.Item) {
		for _, x := range list {
			if x.Kind == scope.Symbol {
				all[x.Name] = 1
			}
			lits(x.Kids)
		}
	}
	for _, c := range p.Classes {
		all[c.Name] = 1
		for _, name := range c.Own {
			all[name] = 1
		}
		for _, o := range append(slices.Clone(c.Methods), c.Metas...) {
			all[o.Name] = 1
			lits(o.Lits)
		}
	}
	return slices.Sorted(maps.Keys(all))
}

// size: how many cells a program takes, reckoned from it alone.
func size(p sema.Program) int {
	words := func(n int) int { return 2 + n }
	raw := func(n int) int { return 2 + (n+7)/8 }
	var literal func(x scope.Item) int
	literal = func(x scope.Item) int {
		sum := 0
		switch x.Kind {
		case scope.Text:
			return raw(len(x.Name))
		case scope.List:
			sum = words(len(x.Kids))
		}
		for _, kid := range x.Kids {
			sum += literal(kid)
		}
		return sum
	}
	names := named(p)
	sum := 2 + words(24) + 3*words(0) + words(2*len(p.Classes)) + words(len(names))
	for _, name := range names {
		sum += raw(len(name))
	}
	for _, c := range p.Classes {
		sum += 2*words(5) + words(2*len(c.Methods)) + words(2*len(c.Metas)) + words(len(c.Own)) + words(0)
		for _, o := range append(slices.Clone(c.Methods), c.Metas...) {
			sum += words(5) + words(len(o.Lits)) + raw(len(o.Code))
			for _, x := range o.Lits {
				sum += literal(x)
			}
		}
	}
	return sum + words(12) + words(4) + words(7) + words(5) + words(1) + raw(5)
}

// plain: lists of nothing are none.
func plain(p sema.Program) sema.Program {
	var out sema.Program
	for _, c := range p.Classes {
		c.Own, c.All = some(c.Own), some(c.All)
		c.Methods, c.Metas = plainMethods(c.Methods), plainMethods(c.Metas)
		out.Classes = append(out.Classes, c)
	}
	return out
}

func plainMethods(list []gen.Out) []gen.Out {
	var out []gen.Out
	for _, o := range list {
		o.Lits, o.Code = plainLiterals(o.Lits), some(o.Code)
		out = append(out, o)
	}
	return out
}

func plainLiterals(list []scope.Item) []scope.Item {
	var out []scope.Item
	for _, x := range list {
		x.Kids = plainLiterals(x.Kids)
		out = append(out, x)
	}
	return out
}

func some[T any](list []T) []T {
	if len(list) == 0 {
		return nil
	}
	return list
}

// maker: of files by chance.
type maker struct{ *rand.Rand }

func (m maker) one(list ...string) string { return list[m.Intn(len(list))] }

// parts: definitions and methods, each by itself.
func (m maker) parts() []string {
	var list []string
	for _, c := range sema.Kernel() {
		list = append(list, definition(c.Name, c.Super, strings.Join(c.Own, " ")))
	}
	classes := []string{"Object", "String", "Array", "Process", "Semaphore", "Message", "Class", "UndefinedObject", "Block"}
	for i := range m.Intn(6) {
		name, super := "C"+strconv.Itoa(m.Intn(9))+"x"+strconv.Itoa(i), m.one("Object", "String", "Array", "Process", "Message", "Object")
		fields := ""
		if super != "String" && super != "Array" {
			fields = m.one("", "a"+strconv.Itoa(i), "b"+strconv.Itoa(i)+" foo"+strconv.Itoa(i))
		}
		list = append(list, definition(name, super, fields))
		classes = append(classes, name)
	}
	count := 0
	for range m.Intn(12) {
		text := m.one(classes...) + m.one(" methods!", " class methods!")
		for range 1 + m.Intn(4) {
			count++
			text += m.method(strconv.Itoa(count)) + "!"
		}
		list = append(list, text+" !\n")
	}
	return list
}

func (m maker) method(id string) string {
	text := m.one("u"+id, "k"+id+": q", "k"+id+": q put: r") + m.one("", " <primitive: "+strconv.Itoa(1+m.Intn(999))+">") + m.one("", " | v w |", " | v | v := 7.") + " "
	for range m.Intn(4) {
		text += m.one("self foo. ", m.literal(3)+" bar. ", "^"+m.literal(3), "^[:z | z foo: "+m.literal(2)+"]", "Object new; yourself. ", "super foo. ", "[nil] whileTrue: ["+m.literal(2)+"]. ")
		if strings.Contains(text, "^") {
			break
		}
	}
	return text
}

func (m maker) literal(deep int) string {
	if deep > 1 && m.Intn(3) == 0 {
		text := "#("
		for range m.Intn(4) {
			text += m.literal(deep-1) + " "
		}
		return text + ")"
	}
	return m.one("'a text'", "'a text'", "''", "#foo", "#start", "#at:put:", "#'any #symbol'", "#+", "300", "5", "-4611686018427387903", "nil", "true", "Object", "'it''s'")
}

// files: the parts, in any order.
func (m maker) files(parts []string, most int) []string {
	files := make([]string, 1+m.Intn(most))
	for _, n := range m.Perm(len(parts)) {
		files[m.Intn(len(files))] += parts[n]
	}
	return files
}
