package gen

import (
	"foundling/code"
	"foundling/scope"
)

// form: of messages that are in line: by which jump their first block, or a loop, is left, and, of one block alone, what stands in another one's stead.
type form struct {
	name        string
	args        int
	jump, other int
	isLoop      bool
}

// forms: by their names.
var forms = [...]form{
	{name: "ifTrue:", args: 1, jump: code.JumpFalse, other: code.PushNil},
	{name: "ifFalse:", args: 1, jump: code.JumpTrue, other: code.PushNil},
	{name: "ifTrue:ifFalse:", args: 2, jump: code.JumpFalse},
	{name: "ifFalse:ifTrue:", args: 2, jump: code.JumpTrue},
	{name: "and:", args: 1, jump: code.JumpFalse, other: code.PushFalse},
	{name: "or:", args: 1, jump: code.JumpTrue, other: code.PushTrue},
	{name: "whileTrue:", args: 1, jump: code.JumpFalse, isLoop: true},
	{name: "whileFalse:", args: 1, jump: code.JumpTrue, isLoop: true},
	{name: "whileTrue", jump: code.JumpFalse, isLoop: true},
	{name: "whileFalse", jump: code.JumpTrue, isLoop: true},
}

// formOf: that of a message.
func formOf(i scope.Item) (f form, isForm bool) {
	for _, f := range forms {
		if f.name == i.Name && f.args == len(i.Kids)-1 {
			return f, true
		}
	}
	return form{}, false
}

// inLine: writes a message that isn't sent; false: it is sent, and nothing is written.
func (w *writer) inLine(i scope.Item) bool {
	f, isForm := formOf(i)
	blocks := i.Kids[1:]
	if f.isLoop {
		blocks = i.Kids
	}
	switch {
	case !isForm || !arePlain(blocks):
		return false
	case f.isLoop:
		w.loop(f.jump, blocks[0], blocks[1:])
		return true
	}
	w.value(i.Kids[0])
	w.choose(f.jump, func() { w.body(blocks[0]) }, func() {
		if len(blocks) > 1 {
			w.body(blocks[1])
		} else {
			w.bare(f.other)
		}
	})
	return true
}

// arePlain: blocks without parameters?
func arePlain(list []scope.Item) bool {
	for _, i := range list {
		if i.Kind != scope.Block || i.Num != 0 {
			return false
		}
	}
	return true
}

// choose: of two parts of code one; a jump leads to the second one.
func (w *writer) choose(jump int, first, second func()) {
	toSecond := w.put(code.Instr{Op: jump})
	first()
	w.over(code.Instr{Op: code.Jump}, func() {
		w.lead(toSecond, len(w.code))
		second()
	})
}

// loop: as long as the jump isn't taken.
func (w *writer) loop(jump int, condition scope.Item, blocks []scope.Item) {
	start := len(w.code)
	w.body(condition)
	w.over(code.Instr{Op: jump}, func() {
		for _, block := range blocks {
			w.body(block)
			w.bare(code.Pop)
		}
		w.lead(w.put(code.Instr{Op: code.Jump}), start)
	})
	w.bare(code.PushNil)
}
