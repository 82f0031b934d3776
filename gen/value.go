package gen

import (
	"foundling/api"
	"foundling/code"
	"foundling/scope"
)

// The least and the greatest number that an instruction has within.
const (
	leastSmall = -128
	mostSmall  = 127
)

// value: what answers one.
func (w *writer) value(i scope.Item) {
	switch i.Kind {
	case scope.Int, scope.Text, scope.Symbol, scope.List, scope.Global:
		w.literal(i)
	case scope.Nil:
		w.bare(code.PushNil)
	case scope.True:
		w.bare(code.PushTrue)
	case scope.False:
		w.bare(code.PushFalse)
	case scope.Self:
		w.bare(code.PushSelf)
	case scope.Temp:
		w.slot(code.PushTemp, i.Slot)
	case scope.Field:
		w.put(code.Instr{Op: code.PushField, A: i.Slot})
	case scope.SetTemp:
		w.value(only(i))
		w.slot(code.StoreTemp, i.Slot)
	case scope.SetField:
		w.value(only(i))
		w.put(code.Instr{Op: code.StoreField, A: i.Slot})
	case scope.Block:
		w.block(i)
	default:
		w.message(i)
	}
}

// literal: a small number stands in its instruction.
func (w *writer) literal(i scope.Item) {
	if i.Kind == scope.Int && i.Num >= leastSmall && i.Num <= mostSmall {
		w.put(code.Instr{Op: code.PushSmall, A: int(i.Num)})
		return
	}
	w.put(code.Instr{Op: code.PushLit, A: w.number(i)})
}

// message: or several to one.
func (w *writer) message(i scope.Item) {
	switch {
	case len(i.Kids) == 0:
		giveUp(api.ErrForm)
	case i.Kind == scope.Cascade:
		w.cascade(i.Kids)
	case i.Kind == scope.SuperSend && i.Kids[0].Kind == scope.Self:
		w.value(i.Kids[0])
		w.send(code.SuperSend, i)
	case i.Kind != scope.Send:
		giveUp(api.ErrForm)
	case !w.inLine(i):
		w.value(i.Kids[0])
		w.send(code.Send, i)
	}
}

// send: a message to what is on the stack already.
func (w *writer) send(op int, i scope.Item) {
	arguments := i.Kids[1:]
	for _, argument := range arguments {
		w.value(argument)
	}
	name := w.number(scope.Item{Kind: scope.Symbol, Name: i.Name})
	w.put(code.Instr{Op: op, A: name, B: len(arguments)})
}

// cascade: all but the last message are sent to a second one of the same.
func (w *writer) cascade(messages []scope.Item) {
	for n, i := range messages {
		if i.Kind != scope.Send || len(i.Kids) == 0 || n > 0 && i.Kids[0].Kind != scope.Hole {
			giveUp(api.ErrForm)
		}
		if n == 0 {
			w.value(i.Kids[0])
		}
		if n == len(messages)-1 {
			w.send(code.Send, i)
		} else {
			w.bare(code.Dup)
			w.send(code.Send, i)
			w.bare(code.Pop)
		}
	}
}
