package sema

import (
	"math/rand"
	"slices"
	"strconv"
	"strings"

	"foundling/api"
	"foundling/chunk"
	"foundling/gen"
	"foundling/parse"
	"foundling/scope"
)

// table: the kernel's, as the chapter has it: name, Super, Kind (if it has one), fields.
const table = `Object - 0
Class Object - superclass methods format name vars
Metaclass Object - superclass methods format name vars
UndefinedObject Object -
True Object -
False Object -
SmallInteger Object -
String Object 2
Symbol String -
Array Object 1
Method Object - header literals bytes selector holder
Context Object 1
Block Object - home start count
Process Object - context priority next list
Semaphore Object - signals first last
Message Object - selector arguments`

// must: what the table says of a class; its number, or -1.
func must(name string) (number int, super, kind string, fields []string) {
	for n, line := range strings.Split(table, "\n") {
		words := strings.Fields(line)
		if words[0] == name {
			return n, strings.ReplaceAll(words[1], "-", ""), words[2], words[3:]
		}
	}
	return -1, "", "", nil
}

// defined: a class, and in which file.
type defined struct {
	chunk.Class
	file int
}

// told: a method, and in which file.
type told struct {
	chunk.Source
	file int
}

// model: after the words of the chapter, each step by itself.
type model struct {
	classes  []defined
	methods  []told
	problems []Problem
}

// least: of the errors that apply to something.
func (m *model) least(file, at int, errors ...api.Errno) {
	errors = slices.DeleteFunc(errors, func(e api.Errno) bool { return e == api.OK })
	if len(errors) > 0 {
		m.problems = append(m.problems, Problem{file, at, slices.Min(errors)})
	}
}

func when(is bool, e api.Errno) api.Errno {
	if is {
		return e
	}
	return api.OK
}

func (m *model) class(name string) (defined, bool) {
	for _, c := range m.classes {
		if c.Name == name {
			return c, true
		}
	}
	return defined{}, false
}

func (m *model) one(files []string) {
	m.least(64, 0, when(len(files) > 64, api.ErrSize))
	for n, text := range files {
		u, at, e := chunk.Read(text)
		m.least(n, at, e)
		for _, c := range u.Classes {
			m.classes = append(m.classes, defined{c, n})
		}
		for _, s := range u.Sources {
			m.methods = append(m.methods, told{s, n})
		}
	}
}

func isOwn(name string) bool {
	return strings.Contains(" self super nil true false ", " "+name+" ")
}

func (m *model) two() {
	for n, c := range m.classes {
		isThere, isBad := false, isOwn(c.Name)
		for _, ahead := range m.classes[:n] {
			isThere = isThere || ahead.Name == c.Name
		}
		for i, name := range c.Fields {
			isThere = isThere || slices.Contains(c.Fields[:i], name)
			isBad = isBad || isOwn(name)
		}
		m.least(c.file, c.At, when(n >= 200, api.ErrSize), when(isThere, api.ErrThere), when(isBad, api.ErrScope))
	}
}

// kind: going up, as far as it goes, by the files to a class of the kernel, from there by the table.
func (m *model) kind(name string) int {
	for range 1000 {
		number, super, kind, _ := must(name)
		if kind == "0" || kind == "1" || kind == "2" {
			return int(kind[0] - '0')
		}
		if number < 0 {
			c, _ := m.class(name)
			super = c.Super
		}
		name = super
	}
	return 0
}

func (m *model) three() {
	for n, line := range strings.Split(table, "\n") {
		name, _, _ := strings.Cut(line, " ")
		_, isThere := m.class(name)
		m.least(-1, n, when(!isThere, api.ErrNone))
	}
	for _, c := range m.classes {
		_, hasSuper := m.class(c.Super)
		number, super, _, fields := must(c.Name)
		above, _, _, _ := must(c.Super)
		mayBe := strings.Contains(" Object String Array Process Semaphore Message ", " "+c.Super+" ")
		isJust := c.Super == super && slices.Equal(c.Fields, fields)
		m.least(c.file, c.At, when(c.Super != "" && !hasSuper, api.ErrNone),
			when(number >= 0 && !isJust, api.ErrKind),
			when(number < 0 && c.Super == "", api.ErrKind),
			when(number < 0 && above >= 0 && !mayBe, api.ErrKind),
			when(number < 0 && len(c.Fields) > 0 && m.kind(c.Name) != 0, api.ErrKind))
	}
}

func (m *model) four() {
	for _, c := range m.classes {
		var seen []string
		name := c.Name
		for name != "" && !slices.Contains(seen, name) {
			seen = append(seen, name)
			up, _ := m.class(name)
			name = up.Super
		}
		m.least(c.file, c.At, when(name != "", api.ErrCycle))
	}
}

// above: the fields of all that stand above a class, Object's first; known names of those that a method may name.
func (m *model) above(c defined) (all, known []string) {
	up, isThere := m.class(c.Super)
	if !isThere {
		return nil, nil
	}
	all, known = m.above(up)
	return append(all, up.Fields...), append(known, names(up)...)
}

func names(c defined) []string {
	if number, _, _, _ := must(c.Name); number < 0 || c.Name == "Message" {
		return c.Fields
	}
	return strings.Fields(strings.Repeat("(none) ", len(c.Fields)))
}

func (m *model) five() {
	for _, c := range m.classes {
		all, _ := m.above(c)
		isThere := false
		for _, name := range c.Fields {
			isThere = isThere || slices.Contains(all, name)
		}
		m.least(c.file, c.At, when(len(all)+len(c.Fields) > 60, api.ErrSize), when(isThere, api.ErrThere))
	}
}

// six: answers what was compiled, by class and Meta.
func (m *model) six() map[string][]gen.Out {
	done := map[string][]gen.Out{}
	var globals []string
	for _, c := range m.classes {
		globals = append(globals, c.Name)
	}
	for _, s := range m.methods {
		c, isThere := m.class(s.Class)
		_, fields := m.above(c)
		fields = append(fields, names(c)...)
		key := s.Class
		if s.Meta {
			fields, key = nil, key+" class"
		}
		method, at, e := parse.Method(s.Text)
		resolved, at2, e2 := scope.Resolve(method, fields, globals)
		out, e3 := gen.Compile(resolved)
		isDouble := slices.ContainsFunc(done[key], func(o gen.Out) bool { return o.Name == out.Name })
		switch {
		case !isThere:
			m.least(s.file, s.At, api.ErrNone)
		case e != api.OK:
			m.least(s.file, chunk.Place(s.Source, at), e)
		case e2 != api.OK:
			m.least(s.file, chunk.Place(s.Source, at2), e2)
		case e3 != api.OK:
			m.least(s.file, s.At, e3)
		case isDouble:
			m.least(s.file, s.At, api.ErrThere)
		default:
			done[key] = append(done[key], out)
		}
	}
	return done
}

func (m *model) program(done map[string][]gen.Out) Program {
	var list []string
	for _, c := range m.classes {
		list = append(list, c.Name)
	}
	slices.Sort(list)
	var p Program
	for _, name := range list {
		c, _ := m.class(name)
		all, _ := m.above(c)
		p.Classes = append(p.Classes, Class{name, c.Super, c.Fields, append(all, c.Fields...), m.kind(name), risen(done[name]), risen(done[name+" class"])})
	}
	return p
}

// risen: in the order of names.
func risen(list []gen.Out) []gen.Out {
	slices.SortFunc(list, func(a, b gen.Out) int { return strings.Compare(a.Name, b.Name) })
	return list
}

func modelBuild(files []string) (Program, []Problem) {
	m := &model{}
	var done map[string][]gen.Out
	for step := range 6 {
		switch step {
		case 0:
			m.one(files)
		case 1:
			m.two()
		case 2:
			m.three()
		case 3:
			m.four()
		case 4:
			m.five()
		case 5:
			done = m.six()
		}
		if len(m.problems) > 0 {
			slices.SortStableFunc(m.problems, func(a, b Problem) int {
				return (a.File-b.File)<<40 + (a.At-b.At)<<10 + int(a.Err-b.Err)
			})
			return Program{}, m.problems
		}
	}
	return m.program(done), nil
}

// maker: of files by chance.
type maker struct {
	*rand.Rand
	odd    int  // one of so many things is spoilt
	isSure bool // all classes are there, no two methods have one name
	count  int
}

func (m *maker) isOdd() bool { return m.Intn(m.odd) == 0 }

func (m *maker) one(list ...string) string { return list[m.Intn(len(list))] }

// definition: of a class.
func definition(name, super, fields string) string {
	if super == "" {
		super = "nil"
	}
	return super + " subclass: #" + name + " fields: '" + fields + "'!"
}

// kernelParts: the definitions of the kernel.
func kernelParts() []string {
	var list []string
	for line := range strings.SplitSeq(table, "\n") {
		name, _, _ := strings.Cut(line, " ")
		_, super, _, fields := must(name)
		list = append(list, definition(name, super, strings.Join(fields, " ")))
	}
	return list
}

// parts: definitions and methods; each stands by itself.
func (m *maker) parts() []string {
	var list []string
	for _, part := range kernelParts() {
		switch {
		case !m.isOdd():
		case m.Intn(3) == 0:
			continue
		case m.Intn(2) == 0:
			part = strings.Replace(part, " fields: '", " fields: 'x ", 1)
		default:
			part = m.one("nil", "Object", "String", "Array", "Class", "A", "B", "None") + part[strings.Index(part, " "):]
		}
		list = append(list, part)
	}
	for _, name := range []string{"A", "B", "C", "D", "E"} {
		if m.isSure || m.Intn(5) > 0 {
			list = append(list, m.class(name))
		}
		for range m.Intn(3) {
			list = append(list, m.methods(name))
		}
	}
	if m.isOdd() {
		list = append(list, m.class(m.one("A", "B", "self", "nil", "Object", "Message")))
	}
	for range m.Intn(3) {
		list = append(list, m.methods(m.one("Object", "Class", "String", "Process", "Semaphore", "Message", "Method", "A", "B")))
	}
	return list
}

func (m *maker) class(name string) string {
	super := m.one("Object", "Object", "Process", "Semaphore", "Message", "Object")
	if i := strings.Index("ABCDE", name); i > 0 && m.Intn(2) == 0 {
		super = "ABCDE"[i-1 : i]
	}
	fields := m.one("", "", "a", "a b", "c", "d e f", "context")
	if m.isSure {
		fields = m.one("", "x"+name, "y"+name+" z"+name)
	}
	if m.isOdd() {
		fields = m.one("a a", "self", "selector", "nil x", "super super", "a b c d", strings.Repeat("z y ", 3))
	} else if m.Intn(4) == 0 && (!m.isSure || name == "E") {
		super, fields = m.one("String", "Array", super), ""
	}
	if m.isOdd() {
		super = m.one("nil", "None", "A", "B", "C", "D", "E", "Class", "Symbol", "Method", "Array")
	}
	return definition(name, super, fields)
}

func (m *maker) methods(name string) string {
	out := name + m.one(" methods!", " methods!", " class methods!")
	for range 1 + m.Intn(3) {
		pattern := m.one("foo", "bar", "baz", "+ q", "k: q", "at: q put: r")
		if m.isSure {
			m.count++
			pattern = m.one("u", "K", "at") + strconv.Itoa(m.count) + m.one("", ": q", ": q put: r")
		}
		text := pattern + m.one(" ^1", " | v | v := self. ^v", " ^[:v | v] value: 3", " ^Object foo; bar", " ^A", " self foo ifTrue: [^'a!!']", "")
		if m.isOdd() {
			text = m.one("foo ^a", "foo a := 1", "foo ^selector", "k: a ^1", "foo ^context", "foo !!", "foo ''!! ^None", "foo ^^", "foo ^self self: super", "k: self", "foo ^[:q :q | ]", "foo ^E", "foo signals := first")
		}
		out += text + "!"
	}
	return out + " !"
}

// files: the parts, in any order, in so many files at most.
func (m *maker) files(parts []string, most int) []string {
	files := make([]string, 1+m.Intn(most))
	for _, n := range m.Perm(len(parts)) {
		files[m.Intn(len(files))] += m.one("", " ", "\n", "\t!") + parts[n]
	}
	return files
}
