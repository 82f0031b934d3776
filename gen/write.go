package gen

import (
	"foundling/api"
	"foundling/code"
	"foundling/scope"
)

// fault: what compiling gives up with.
type fault struct{ e api.Errno }

// giveUp: by a panic that Compile catches.
func giveUp(e api.Errno) { panic(fault{e}) }

// writer: the code as far as it is written, its literals, and how many slots there are.
type writer struct {
	literals
	code  []byte
	slots int
}

// put: an instruction; answers its place. As no code is longer than MaxCode, no jump in it is longer than MaxJump.
func (w *writer) put(i code.Instr) int {
	b, e := code.Encode(i)
	switch {
	case e != api.OK && min(i.A, i.B) < 0:
		giveUp(api.ErrForm)
	case e != api.OK || len(w.code)+len(b) > api.MaxCode:
		giveUp(api.ErrSize)
	}
	at := len(w.code)
	w.code = append(w.code, b...)
	return at
}

// bare: an instruction without anything.
func (w *writer) bare(op int) { w.put(code.Instr{Op: op}) }

// slot: an instruction for one of the method's slots.
func (w *writer) slot(op, slot int) {
	if slot >= w.slots {
		giveUp(api.ErrForm)
	}
	w.put(code.Instr{Op: op, A: slot})
}

// lead: a jump at a place to another one, a Block's code up to it.
func (w *writer) lead(at, goal int) {
	i, behind, _ := code.Decode(w.code, at)
	if i.Op == code.Block {
		i.B = goal - behind
	} else {
		i.A = goal - behind
	}
	b, _ := code.Encode(i)
	copy(w.code[at:], b)
}

// over: what goes from here behind all that write writes.
func (w *writer) over(i code.Instr, write func()) {
	at := w.put(i)
	write()
	w.lead(at, len(w.code))
}

// method: all of it.
func (w *writer) method(body []scope.Item) {
	w.statements(body)
	if !isReturned(body) {
		if len(body) > 0 {
			w.bare(code.Pop)
		}
		w.bare(code.PushSelf)
		w.bare(code.Return)
	}
}

// isReturned: is the last statement a Return?
func isReturned(body []scope.Item) bool {
	return len(body) > 0 && body[len(body)-1].Kind == scope.Return
}

// statements: of which only the last one may be a Return; its value stays.
func (w *writer) statements(body []scope.Item) {
	for n, i := range body {
		if n > 0 {
			w.bare(code.Pop)
		}
		if i.Kind == scope.Return && n == len(body)-1 {
			w.value(only(i))
			w.bare(code.Return)
		} else {
			w.value(i)
		}
	}
}

// only: the one kid that there is.
func only(i scope.Item) scope.Item {
	if len(i.Kids) != 1 {
		giveUp(api.ErrForm)
	}
	return i.Kids[0]
}

// body: of a Block.
func (w *writer) body(block scope.Item) {
	for n := int(block.Num); n < block.Width; n++ {
		w.bare(code.PushNil)
		w.slot(code.StoreTemp, block.Slot+n)
		w.bare(code.Pop)
	}
	w.statements(block.Kids)
	if len(block.Kids) == 0 {
		w.bare(code.PushNil)
	}
}

// block: one that is an object.
func (w *writer) block(block scope.Item) {
	params := int(block.Num)
	w.over(code.Instr{Op: code.Block, A: params}, func() {
		for n := range params {
			w.slot(code.StoreTemp, block.Slot+params-1-n)
			w.bare(code.Pop)
		}
		w.body(block)
		if !isReturned(block.Kids) {
			w.bare(code.End)
		}
	})
}
