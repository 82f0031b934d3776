package frame

import (
	"foundling/api"
	"foundling/boot"
	"foundling/code"
	"foundling/head"
	"foundling/sound"
)

// longest: bytes of an instruction.
const longest = 4

// method: that of the context; 0 if it is none.
func (f *Frame) method() api.Word {
	w := f.word(boot.Method)
	if !f.there().memory.isOf(w, sound.MethodClass) {
		return 0
	}
	return w
}

// Literal: of its method.
func (f *Frame) Literal(i int) (api.Word, api.Errno) {
	if i < 0 {
		return 0, api.ErrNone
	}
	m := f.there().memory
	return m.Get(m.word(f.method(), literalsAt), i)
}

// code: the bytes of its method, and how many there are.
func (f *Frame) code() (api.Word, int, api.Errno) {
	m := f.there().memory
	w := m.word(f.method(), bytesAt)
	d, e := m.Head(w)
	if e != api.OK || d.Kind != head.Raw {
		return 0, 0, api.ErrKind
	}
	return w, d.Size, api.OK
}

// Next: the instruction at its place. No more bytes are read than it may have, so that what a step takes doesn't hang on how long a method is.
func (f *Frame) Next() (code.Instr, int, api.Errno) {
	pc, e := f.number(boot.Pc)
	if e != api.OK {
		return code.Instr{}, 0, e
	}
	if pc < 0 {
		return code.Instr{}, 0, api.ErrArg
	}
	w, size, e := f.code()
	if e != api.OK {
		return code.Instr{}, 0, e
	}
	if pc > size {
		return code.Instr{}, 0, api.ErrArg
	}
	var b [longest]byte
	count := min(longest, size-pc)
	for i := range count {
		b[i], _ = f.memory.Byte(w, pc+i)
	}
	instr, behind, e := code.Decode(b[:count], 0)
	if e != api.OK {
		return code.Instr{}, 0, e
	}
	return instr, pc + behind, api.OK
}

// Go: to another place.
func (f *Frame) Go(at int) api.Errno {
	if at < 0 {
		return api.ErrArg
	}
	_, size, e := f.code()
	if e != api.OK {
		return e
	}
	if at > size {
		return api.ErrArg
	}
	return f.put(boot.Pc, number(at))
}
