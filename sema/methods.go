package sema

import (
	"cmp"
	"maps"
	"slices"

	"foundling/api"
	"foundling/chunk"
	"foundling/gen"
	"foundling/parse"
	"foundling/scope"
)

// methods: become instructions.
func (b *builder) methods() {
	globals := slices.Sorted(maps.Keys(b.named))
	for _, s := range b.sources {
		at, e := b.method(s, globals)
		b.tell(s.file, at, e)
	}
}

// method: puts it into its class, or answers what is wrong, and where in the file.
func (b *builder) method(s source, globals []string) (int, api.Errno) {
	c, isThere := b.named[s.Class]
	if !isThere {
		return s.At, api.ErrNone
	}
	m, at, e := parse.Method(s.Text)
	if e != api.OK {
		return chunk.Place(s.Source, at), e
	}
	resolved, at, e := scope.Resolve(m, c.fieldsFor(s.Meta), globals)
	if e != api.OK {
		return chunk.Place(s.Source, at), e
	}
	out, e := gen.Compile(resolved)
	if e != api.OK {
		return s.At, e
	}
	id := identity{class: s.Class, name: out.Name, meta: s.Meta}
	if _, isThere := b.done[id]; isThere {
		return s.At, api.ErrThere
	}
	b.done[id] = struct{}{}
	c.add(out, s.Meta)
	return 0, api.OK
}

// fieldsFor: its methods, or those of its class, which has none.
func (c *class) fieldsFor(meta bool) []string {
	if meta {
		return nil
	}
	return c.visible
}

// add: a method.
func (c *class) add(out gen.Out, meta bool) {
	if meta {
		c.Metas = append(c.Metas, out)
	} else {
		c.Methods = append(c.Methods, out)
	}
}

// program: all that was made, in the order of names.
func (b *builder) program() Program {
	var p Program
	byName := func(m, n gen.Out) int { return cmp.Compare(m.Name, n.Name) }
	for _, c := range b.classes {
		slices.SortFunc(c.Methods, byName)
		slices.SortFunc(c.Metas, byName)
		p.Classes = append(p.Classes, c.Class)
	}
	slices.SortFunc(p.Classes, func(c, d Class) int { return cmp.Compare(c.Name, d.Name) })
	return p
}
