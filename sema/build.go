package sema

import (
	"slices"

	"foundling/api"
	"foundling/chunk"
)

// class: as it will stand in the program, where it is defined, and the fields that its methods can name.
type class struct {
	Class
	file, at int
	visible  []string
}

// source: a method's text, and its file.
type source struct {
	chunk.Source
	file int
}

// identity: of which no two methods may be.
type identity struct {
	class, name string
	meta        bool
}

// builder: what is made of files, step by step, and what is wrong.
type builder struct {
	files    []string
	classes  []*class
	sources  []source
	named    map[string]*class
	done     map[identity]struct{}
	problems []Problem
}

// tell: of a problem.
func (b *builder) tell(file, at int, e api.Errno) {
	if e != api.OK {
		b.problems = append(b.problems, Problem{File: file, At: at, Err: e})
	}
}

// tellOf: the error that something has of each class.
func (b *builder) tellOf(wrong func(c *class) api.Errno) {
	for _, c := range b.classes {
		b.tell(c.file, c.at, wrong(c))
	}
}

// read: what the files have.
func (b *builder) read() {
	if len(b.files) > api.MaxFiles {
		b.tell(api.MaxFiles, 0, api.ErrSize)
	}
	for n, text := range b.files {
		u, at, e := chunk.Read(text)
		b.tell(n, at, e)
		for _, c := range u.Classes {
			b.classes = append(b.classes, &class{Class: Class{Name: c.Name, Super: c.Super, Own: c.Fields}, file: n, at: c.At})
		}
		for _, s := range u.Sources {
			b.sources = append(b.sources, source{Source: s, file: n})
		}
	}
}

// names: of classes and fields.
func (b *builder) names() {
	count := 0
	b.tellOf(func(c *class) api.Errno {
		count++
		_, isThere := b.named[c.Name]
		b.named[c.Name] = c
		switch {
		case count > api.MaxClass:
			return api.ErrSize
		case isThere || hasTwice(c.Own):
			return api.ErrThere
		case isReserved(c.Name) || slices.ContainsFunc(c.Own, isReserved):
			return api.ErrScope
		}
		return api.OK
	})
}

// hasTwice: the same name?
func hasTwice(names []string) bool {
	list := slices.Sorted(slices.Values(names))
	return len(slices.Compact(list)) < len(names)
}

// isReserved: does a name mean something else everywhere?
func isReserved(name string) bool {
	switch name {
	case "self", "super", "nil", "true", "false":
		return true
	}
	return false
}

// supers: which classes are there, and which stand below which.
func (b *builder) supers() {
	for n, r := range kernel {
		if b.named[r.name] == nil {
			b.tell(-1, n, api.ErrNone)
		}
	}
	b.tellOf(func(c *class) api.Errno {
		r, isKernel := kernelRow(c.Name)
		above, isBelowKernel := kernelRow(c.Super)
		switch {
		case c.Super != "" && b.named[c.Super] == nil:
			return api.ErrNone
		case isKernel && !r.isJust(c.Class):
			return api.ErrKind
		case !isKernel && (c.Super == "" || isBelowKernel && !above.isOpen() || len(c.Own) > 0 && b.kind(c) != 0):
			return api.ErrKind
		}
		return api.OK
	})
}

// way: a class and those above it, as far as they are there; one more than there are classes, if it leads into a cycle.
func (b *builder) way(c *class) []*class {
	var list []*class
	for c != nil && len(list) <= len(b.classes) {
		list = append(list, c)
		c = b.named[c.Super]
	}
	return list
}

// kind: that of the next kernel class up. It is the table's, also where that class isn't there, or is otherwise.
func (b *builder) kind(c *class) int {
	way := b.way(c)
	for _, one := range way {
		if r, isKernel := kernelRow(one.Name); isKernel {
			return r.kindAsItComes()
		}
	}
	missing, _ := kernelRow(way[len(way)-1].Super)
	return missing.kindAsItComes()
}

// cycles: ways up that don't end.
func (b *builder) cycles() {
	b.tellOf(func(c *class) api.Errno {
		if len(b.way(c)) > len(b.classes) {
			return api.ErrCycle
		}
		return api.OK
	})
}

// fields: what each class has, and those above it.
func (b *builder) fields() {
	b.tellOf(func(c *class) api.Errno {
		c.Kind = b.kind(c)
		for _, one := range slices.Backward(b.way(c)) {
			c.All = append(c.All, one.Own...)
			c.visible = append(c.visible, one.shown()...)
		}
		above := c.All[:len(c.All)-len(c.Own)]
		switch {
		case len(c.All) > api.MaxFields:
			return api.ErrSize
		case slices.ContainsFunc(c.Own, func(name string) bool { return slices.Contains(above, name) }):
			return api.ErrThere
		}
		return api.OK
	})
}

// shown: the names of its own fields; none, which no variable bears, stands for what no method can name.
func (c *class) shown() []string {
	if r, isKernel := kernelRow(c.Name); isKernel && r.isHidden() {
		return make([]string, len(c.Own))
	}
	return c.Own
}
