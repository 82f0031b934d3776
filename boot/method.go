package boot

import (
	"slices"

	"foundling/api"
	"foundling/gen"
	"foundling/intern"
	"foundling/scope"
	"foundling/sound"
)

// headerAt: where the header stands in a method.
const headerAt = 0

// firstPriority: of the first process.
const firstPriority = 3

// methods: a new list of them, by turns a symbol and a method.
func (b *builder) methods(holder api.Word, list ...gen.Out) api.Word {
	var words []api.Word
	for _, o := range list {
		words = append(words, b.symbols[o.Name], b.method(holder, o))
	}
	return b.list(words...)
}

// method: a new one. All symbols are there, so that its literals make none.
func (b *builder) method(holder api.Word, o gen.Out) api.Word {
	var literals []api.Word
	for _, x := range o.Lits {
		literals = append(literals, made(intern.Make(b.Heap, b.root, x)))
	}
	return b.fields(sound.MethodClass, number(Header(o)), b.list(literals...), b.raw(sound.StringClass, o.Code...), b.symbols[o.Name], holder)
}

// schedule: what runs first, and nobody who waits.
func (b *builder) schedule() api.Word {
	nothing := b.special[sound.Nil]
	method := b.method(b.special[sound.NilClass], startMethod())
	context := made(Context(b.Heap, b.root, method, nothing, nothing))
	words := slices.Repeat([]api.Word{nothing}, Slots)
	words[Active] = b.fields(sound.ProcessClass, context, number(firstPriority), nothing, nothing)
	return b.list(words...)
}

// startMethod: what is compiled of "start ^nil start".
func startMethod() gen.Out {
	send := scope.Item{Kind: scope.Send, Name: Start, Kids: []scope.Item{{Kind: scope.Nil}}}
	out, e := gen.Compile(scope.Code{Name: Start, Body: []scope.Item{{Kind: scope.Return, Kids: []scope.Item{send}}}})
	if e != api.OK {
		panic(fault{e})
	}
	return out
}
