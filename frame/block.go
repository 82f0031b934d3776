package frame

import (
	"foundling/api"
	"foundling/boot"
	"foundling/head"
	"foundling/heap"
	"foundling/small"
	"foundling/sound"
)

// headCells: how many cells an object's head has.
const headCells = 2

// Block: a new one. What is wrong is looked for in the order of the errors' numbers.
func (f *Frame) Block(start, count int) (api.Word, api.Errno) {
	if start < 0 || count < 0 {
		return 0, api.ErrArg
	}
	m := f.there().memory
	if m.Free() < headCells+blockWords {
		return 0, api.ErrFull
	}
	from, e := small.Of(int64(start))
	if e != api.OK {
		return 0, e
	}
	args, e := small.Of(int64(count))
	if e != api.OK {
		return 0, e
	}
	home := f.Home().Context()
	if !m.isContext(home) {
		return 0, api.ErrKind
	}
	block, e := m.Alloc(m.special(sound.BlockClass), head.Fields, blockWords, 0)
	if e != api.OK {
		return 0, e
	}
	for i, w := range [blockWords]api.Word{homeAt: home, startAt: from, countAt: args} {
		m.Put(block, i, w)
	}
	return block, api.OK
}

// Enter: a context of a block.
func Enter(h *heap.Heap, root, block, sender api.Word, args ...api.Word) (api.Word, api.Errno) {
	m := memory{h, root}
	if !m.isBlock(block) {
		return 0, api.ErrKind
	}
	top := number(len(args))
	if top != m.word(block, countAt) {
		return 0, api.ErrArg
	}
	home := m.word(block, homeAt)
	method := m.word(home, boot.Method)
	_, places, e := m.parts(method)
	if e != api.OK {
		return 0, e
	}
	context, e := m.Alloc(m.special(sound.ContextClass), head.Slots, boot.First+max(places, len(args)), number(0))
	if e != api.OK { // also of more words than an object can have
		return 0, api.ErrFull
	}
	first := [boot.First]api.Word{
		boot.Sender: sender, boot.Pc: m.word(block, startAt), boot.Top: top,
		boot.Method: method, boot.Receiver: m.word(home, boot.Receiver), boot.Home: home,
	}
	for i, w := range first {
		m.Put(context, i, w)
	}
	for i, w := range args {
		m.Put(context, boot.First+i, w)
	}
	return context, api.OK
}

// Chain: a context, and those that wait for it.
func Chain(h *heap.Heap, root, context api.Word) []api.Word {
	m := memory{h, root}
	var out []api.Word
	for m.isContext(context) && len(out) < m.Cells() {
		out = append(out, context)
		context = m.word(context, boot.Sender)
	}
	return out
}
