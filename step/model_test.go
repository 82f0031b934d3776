package step

import (
	"foundling/api"
	"foundling/boot"
	"foundling/code"
	"foundling/head"
	"foundling/heap"
	"foundling/sound"
)

// model: a context as the chapters say it, word by word, of which all that is done shows in its memory.
type model struct {
	h    *heap.Heap
	root api.Word
	c    api.Word
}

func (m *model) get(p api.Word, i int) api.Word {
	x, _ := m.h.Get(p, i)
	return x
}

func (m *model) special(i int) api.Word { return m.get(m.root, i) }

func (m *model) of(i int) api.Word { return m.get(m.c, i) }

func (m *model) isOf(p api.Word, class int) bool {
	d, e := m.h.Head(p)
	return e == api.OK && d.Class == m.special(class)
}

func (m *model) isContext(p api.Word) bool {
	d, _ := m.h.Head(p)
	return m.isOf(p, sound.ContextClass) && d.Kind != head.Raw && d.Size > 6 && m.isOf(m.get(p, boot.Method), sound.MethodClass)
}

// worst: of errors that all apply the least.
func worst(list ...api.Errno) api.Errno {
	out := api.OK
	for _, e := range list {
		if e != api.OK && (out == api.OK || e < out) {
			out = e
		}
	}
	return out
}

// value: a number.
func value(w api.Word) (int, bool) { return int(int64(w) >> 1), w&1 == 1 }

// slotsOf: of a context that is a home: how many, and whether that can be told.
func (m *model) slotsOf(p api.Word) (int, bool) {
	if m.get(p, boot.Home) != m.special(sound.Nil) {
		return 0, true
	}
	header, isNumber := value(m.get(m.get(p, boot.Method), 0))
	if !isNumber || !m.isOf(m.get(p, boot.Method), sound.MethodClass) {
		return 0, false
	}
	if header < 0 {
		return 0, true
	}
	return header / 16 % 64, true
}

// stack: where it begins, how many places it has, and how many words.
func (m *model) stack() (from, places, top int, e api.Errno) {
	slots, isSo := m.slotsOf(m.c)
	d, _ := m.h.Head(m.c)
	from = 6 + slots
	places = max(0, d.Size-from)
	top, isNumber := value(m.of(boot.Top))
	if !isSo || !isNumber || top < 0 || top > places {
		return 0, 0, 0, api.ErrKind
	}
	return from, places, top, api.OK
}

// peek: one of the last words.
func (m *model) peek(n int) (api.Word, api.Errno) {
	from, _, top, e := m.stack()
	if e != api.OK {
		return 0, e
	}
	if n >= top {
		return 0, api.ErrNone
	}
	return m.of(from + top - 1 - n), api.OK
}

// pushes: what one word more comes to, if that is to be had.
func (m *model) pushes(w api.Word, e api.Errno) (Action, api.Errno) {
	from, places, top, wrong := m.stack()
	if wrong == api.OK && top == places {
		wrong = api.ErrFull
	}
	if e := worst(e, wrong); e != api.OK {
		return Action{}, e
	}
	m.h.Put(m.c, from+top, w)
	m.h.Put(m.c, boot.Top, api.Word(2*(top+1)+1))
	return Action{}, api.OK
}

// drops: the last word.
func (m *model) drops() {
	from, _, top, _ := m.stack()
	m.h.Put(m.c, from+top-1, 1)
	m.h.Put(m.c, boot.Top, api.Word(2*(top-1)+1))
}

// slot: in which object it is, and where.
func (m *model) slot(i int) (api.Word, int, api.Errno) {
	home := m.c
	if m.of(boot.Home) != m.special(sound.Nil) {
		home = m.of(boot.Home)
		if !m.isContext(home) {
			return 0, 0, api.ErrKind
		}
	}
	slots, isSo := m.slotsOf(home)
	if !isSo {
		return 0, 0, api.ErrKind
	}
	d, _ := m.h.Head(home)
	if i >= min(slots, d.Size-6) {
		return 0, 0, api.ErrNone
	}
	return home, 6 + i, api.OK
}

// step: what is to come of it; where it tells an error, the memory may be any.
func (m *model) step() (Action, api.Errno) {
	if !m.isContext(m.c) {
		return Action{}, api.ErrKind
	}
	if m.of(boot.Pc) == m.special(sound.Nil) {
		return Action{}, api.ErrState
	}
	pc, isNumber := value(m.of(boot.Pc))
	b, e := m.h.Bytes(m.get(m.of(boot.Method), 2))
	switch {
	case isNumber && pc < 0:
		return Action{}, api.ErrArg
	case !isNumber || e != api.OK:
		return Action{}, api.ErrKind
	}
	i, behind, e := code.Decode(b, pc)
	if e != api.OK {
		return Action{}, e
	}
	m.h.Put(m.c, boot.Pc, num(int64(behind)))
	if i.Op <= code.StoreField || i.Op == code.Dup {
		return m.words(i)
	}
	return m.ways(i, behind, len(b))
}

// words: instructions of which words go to and fro.
func (m *model) words(i code.Instr) (Action, api.Errno) {
	last, noLast := m.peek(0)
	slotted, at, noSlot := m.slot(i.A)
	literal, noLiteral := m.h.Get(m.get(m.of(boot.Method), 1), i.A)
	field, noField := m.h.Get(m.of(boot.Receiver), i.A)
	switch i.Op {
	case code.PushSelf:
		return m.pushes(m.of(boot.Receiver), api.OK)
	case code.PushNil:
		return m.pushes(m.special(sound.Nil), api.OK)
	case code.PushTrue:
		return m.pushes(m.special(sound.True), api.OK)
	case code.PushFalse:
		return m.pushes(m.special(sound.False), api.OK)
	case code.PushSmall:
		return m.pushes(num(int64(i.A)), api.OK)
	case code.PushTemp:
		return m.pushes(m.get(slotted, at), noSlot)
	case code.PushField:
		return m.pushes(field, noField)
	case code.PushLit:
		return m.pushes(literal, noLiteral)
	case code.Dup:
		return m.pushes(last, noLast)
	case code.StoreTemp:
		if e := worst(noLast, noSlot); e != api.OK {
			return Action{}, e
		}
		m.h.Put(slotted, at, last)
	case code.StoreField:
		if e := worst(noLast, noField); e != api.OK {
			return Action{}, e
		}
		m.h.Put(m.of(boot.Receiver), i.A, last)
	}
	return Action{}, api.OK
}

// ways: all others.
func (m *model) ways(i code.Instr, behind, size int) (Action, api.Errno) {
	last, e := m.peek(0)
	switch i.Op {
	case code.Pop:
		if e == api.OK {
			m.drops()
		}
		return Action{}, e
	case code.Return, code.End:
		if e == api.OK {
			m.drops()
			return Action{i.Op - code.Return + Returns, last, 0}, api.OK
		}
		return Action{}, e
	case code.Send, code.SuperSend:
		_, e := m.peek(i.B)
		name, noName := m.h.Get(m.get(m.of(boot.Method), 1), i.A)
		if e := worst(e, noName); e != api.OK {
			return Action{}, e
		}
		return Action{i.Op - code.Send + Sends, name, i.B}, api.OK
	case code.Block:
		return m.block(i, behind, size)
	}
	goes := i.Op == code.Jump
	if !goes {
		if e != api.OK {
			return Action{}, e
		}
		goes = last == m.special(map[int]int{code.JumpTrue: sound.True, code.JumpFalse: sound.False}[i.Op])
	}
	if goes {
		if behind+i.A < 0 || behind+i.A > size {
			return Action{}, api.ErrArg
		}
		m.h.Put(m.c, boot.Pc, num(int64(behind+i.A)))
	}
	switch {
	case i.Op == code.Jump && i.A < 0:
		return Action{Kind: Back}, api.OK
	case i.Op == code.Jump:
		return Action{}, api.OK
	}
	m.drops()
	if last != m.special(sound.True) && last != m.special(sound.False) {
		return Action{Kind: Refused, Word: last}, api.OK
	}
	return Action{}, api.OK
}

// block: first whether there is room for it; then of the others the least.
func (m *model) block(i code.Instr, behind, size int) (Action, api.Errno) {
	if m.h.Free() < 5 {
		return Action{}, api.ErrFull
	}
	home, noHome := m.c, api.OK
	if m.of(boot.Home) != m.special(sound.Nil) {
		home = m.of(boot.Home)
		if !m.isContext(home) {
			noHome = api.ErrKind
		}
	}
	noPlace := api.OK
	if behind+i.B > size {
		noPlace = api.ErrArg
	}
	if e := worst(noHome, noPlace); e != api.OK {
		_, e = m.pushes(0, e)
		return Action{}, e
	}
	w, _ := m.h.Alloc(m.special(sound.BlockClass), head.Fields, 3, 1)
	m.h.Put(w, 0, home)
	m.h.Put(w, 1, num(int64(behind)))
	m.h.Put(w, 2, num(int64(i.A)))
	m.h.Put(m.c, boot.Pc, num(int64(behind+i.B)))
	return m.pushes(w, api.OK)
}
