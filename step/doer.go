package step

import (
	"foundling/api"
	"foundling/boot"
	"foundling/code"
	"foundling/frame"
	"foundling/heap"
	"foundling/small"
	"foundling/sound"
)

// blockCells: how many a Block takes: its head, and three words.
const blockCells = 5

// headerAt: where the header stands in a method.
const headerAt = 0

// doer: what does an instruction, and the place behind that. Whatever a deed may be refused is found out ahead of what it changes.
type doer struct {
	*frame.Frame
	heap   *heap.Heap
	root   api.Word
	instr  code.Instr
	behind int
}

// deed: what an instruction does.
func (d *doer) deed() func(*doer) (Action, api.Errno) {
	deeds := [...]func(*doer) (Action, api.Errno){
		code.PushSelf:   (*doer).pushSelf,
		code.PushNil:    (*doer).pushNil,
		code.PushTrue:   (*doer).pushTrue,
		code.PushFalse:  (*doer).pushFalse,
		code.PushSmall:  (*doer).pushSmall,
		code.PushTemp:   (*doer).pushTemp,
		code.PushField:  (*doer).pushField,
		code.PushLit:    (*doer).pushLit,
		code.StoreTemp:  (*doer).storeTemp,
		code.StoreField: (*doer).storeField,
		code.Pop:        (*doer).pop,
		code.Dup:        (*doer).dup,
		code.Send:       (*doer).send,
		code.SuperSend:  (*doer).superSend,
		code.Jump:       (*doer).jump,
		code.JumpTrue:   (*doer).jumpTrue,
		code.JumpFalse:  (*doer).jumpFalse,
		code.Block:      (*doer).block,
		code.Return:     (*doer).giveBack,
		code.End:        (*doer).end,
	}
	return deeds[d.instr.Op]
}

// special: a word of the root's.
func (d *doer) special(i int) api.Word {
	w, _ := d.heap.Get(d.root, i)
	return w
}

// went: nothing more is to be done, if nothing was wrong.
func went(e api.Errno) (Action, api.Errno) { return Action{}, e }

// least: of two errors that both apply.
func least(a, b api.Errno) api.Errno {
	if a == api.OK || b != api.OK && b < a {
		return b
	}
	return a
}

// room: what Push would tell.
func (d *doer) room() api.Errno {
	if _, e := d.Peek(0); e == api.ErrKind {
		return e
	}
	if d.Depth() >= d.places() {
		return api.ErrFull
	}
	return api.OK
}

// places: how many its stack has: all words behind the slots, of which a block's context has none.
func (d *doer) places() int {
	head, _ := d.heap.Head(d.Context())
	places := head.Size - boot.First
	if d.Word(boot.Home) == d.special(sound.Nil) {
		word, _ := d.heap.Get(d.Word(boot.Method), headerAt)
		header, _ := small.Value(word)
		_, slots, _, _ := boot.Parts(header)
		places -= slots
	}
	return places
}

// push: a word; if there was none to be had, for e, of that and what Push tells the least.
func (d *doer) push(w api.Word, e api.Errno) (Action, api.Errno) {
	if e != api.OK {
		return went(least(e, d.room()))
	}
	return went(d.Push(w))
}

func (d *doer) pushSelf() (Action, api.Errno) { return d.push(d.Word(boot.Receiver), api.OK) }

func (d *doer) pushNil() (Action, api.Errno) { return d.push(d.special(sound.Nil), api.OK) }

func (d *doer) pushTrue() (Action, api.Errno) { return d.push(d.special(sound.True), api.OK) }

func (d *doer) pushFalse() (Action, api.Errno) { return d.push(d.special(sound.False), api.OK) }

func (d *doer) pushSmall() (Action, api.Errno) { return d.push(small.Of(int64(d.instr.A))) }

func (d *doer) pushTemp() (Action, api.Errno) { return d.push(d.Temp(d.instr.A)) }

func (d *doer) pushField() (Action, api.Errno) { return d.push(d.Field(d.instr.A)) }

func (d *doer) pushLit() (Action, api.Errno) { return d.push(d.Literal(d.instr.A)) }

func (d *doer) storeTemp() (Action, api.Errno) {
	w, e := d.Peek(0)
	if e != api.OK {
		_, other := d.Temp(d.instr.A)
		return went(least(e, other))
	}
	return went(d.SetTemp(d.instr.A, w))
}

func (d *doer) storeField() (Action, api.Errno) {
	w, e := d.Peek(0)
	if e != api.OK {
		_, other := d.Field(d.instr.A)
		return went(least(e, other))
	}
	return went(d.SetField(d.instr.A, w))
}

func (d *doer) pop() (Action, api.Errno) { return went(d.Drop(1)) }

func (d *doer) dup() (Action, api.Errno) { return d.push(d.Peek(0)) }

func (d *doer) send() (Action, api.Errno) { return d.message(Sends) }

func (d *doer) superSend() (Action, api.Errno) { return d.message(Supers) }

// message: its name, if all that it takes is there.
func (d *doer) message(kind int) (Action, api.Errno) {
	args := d.instr.B
	_, e := d.Peek(args)
	name, other := d.Literal(d.instr.A)
	if e := least(e, other); e != api.OK {
		return went(e)
	}
	return Action{Kind: kind, Word: name, Args: args}, api.OK
}

func (d *doer) jump() (Action, api.Errno) {
	if e := d.Go(d.behind + d.instr.A); e != api.OK {
		return went(e)
	}
	if d.instr.A < 0 {
		return Action{Kind: Back}, api.OK
	}
	return went(api.OK)
}

func (d *doer) jumpTrue() (Action, api.Errno) { return d.choose(sound.True, sound.False) }

func (d *doer) jumpFalse() (Action, api.Errno) { return d.choose(sound.False, sound.True) }

// choose: it jumps if the last word is the root's at one place, goes on if it is that at the other one.
func (d *doer) choose(goes, stays int) (Action, api.Errno) {
	w, e := d.Peek(0)
	if e != api.OK {
		return went(e)
	}
	a := Action{}
	switch w {
	case d.special(goes):
		if e := d.Go(d.behind + d.instr.A); e != api.OK {
			return went(e)
		}
	case d.special(stays):
	default:
		a = Action{Kind: Refused, Word: w}
	}
	return a, d.Drop(1)
}

// block: as a new object can't be taken back, it is made behind all that may be wrong.
func (d *doer) block() (Action, api.Errno) {
	if d.heap.Free() < blockCells {
		return went(api.ErrFull)
	}
	if e := d.Go(d.behind + d.instr.B); e != api.OK {
		return went(e)
	}
	if e := d.room(); e != api.OK {
		return went(e)
	}
	return d.push(d.Block(d.behind, d.instr.A))
}

func (d *doer) giveBack() (Action, api.Errno) { return d.result(Returns) }

func (d *doer) end() (Action, api.Errno) { return d.result(Ends) }

// result: the last word, taken.
func (d *doer) result(kind int) (Action, api.Errno) {
	w, e := d.Pop()
	if e != api.OK {
		return went(e)
	}
	return Action{Kind: kind, Word: w}, api.OK
}
