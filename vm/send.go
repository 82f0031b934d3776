package vm

import (
	"slices"

	"foundling/api"
	"foundling/boot"
	"foundling/frame"
	"foundling/head"
	"foundling/sound"
	"foundling/step"
)

// message: a name, the receiver with the arguments, and the class where the method is asked for. (That of a Super isn't the receiver's own: the same words there mean another method.)
type message struct {
	name  api.Word
	list  []api.Word
	class api.Word
}

func (x message) isSame(y message) bool {
	return x.name == y.name && slices.Equal(x.list, y.list) && x.class == y.class
}

// sends: what the instruction asks for, and counts it. A message that is asked for again by what it asks for comes to no end: then it is as if the instruction, which stands before, had not been met yet, so that steps go on for ever, and each ends.
func (m *machine) sends(a step.Action, before api.Word) {
	x := m.toOwn(a.Word, m.taken(a.Args+1))
	if a.Kind == step.Supers {
		x.class = m.above()
	}
	if !m.send(x) {
		m.frame().SetWord(boot.Pc, before)
		for _, w := range x.list {
			m.push(w)
		}
		return
	}
	if m.end == Running || m.end == Quit {
		m.tally()
	}
}

// toOwn: a message whose method is asked for in the receiver's own class.
func (m *machine) toOwn(name api.Word, list []api.Word) message {
	return message{name, list, m.classOf(list[0])}
}

// taken: the last words of the stack, of which it is known that there are as many.
func (m *machine) taken(count int) []api.Word {
	f := m.frame()
	out := make([]api.Word, count)
	for i := range out {
		out[i], _ = f.Peek(count - 1 - i)
	}
	f.Drop(count)
	return out
}

// above: the class above that in which the method of the context stands.
func (m *machine) above() api.Word {
	method := m.frame().Word(boot.Method)
	return m.word(m.word(method, holderAt), sound.Super)
}

// send: a message; then, as long as that is a primitive that asks for another message, that one. False: it comes back to one that it has sent. (What is kept in mind is the first one, the second, the fourth, and so on: as the memory stays as it is, it is enough to meet one of them again.)
func (m *machine) send(x message) bool {
	met, next := x, 1
	for sent := 1; ; sent++ {
		c := m.understood(x)
		if c == nil {
			return true
		}
		switch c.primitive() {
		case failed:
			m.activate(c)
			return true
		case done:
			return true
		}
		x = c.asked
		if x.isSame(met) {
			return false
		}
		if sent == next {
			met, next = x, 2*next
		}
	}
}

// understood: the call of the method that a message means, or of doesNotUnderstand: in its stead; none, if that isn't there either, and the process is over.
func (m *machine) understood(x message) *call {
	if method, isThere := m.find(x.class, x.name); isThere {
		return &call{machine: m, method: method, list: x.list}
	}
	method, isThere := m.find(m.classOf(x.list[0]), m.special(sound.Lacks))
	if !isThere {
		m.fault("doesNotUnderstand: " + m.text(x.name))
		return nil
	}
	w, e := m.reified(x)
	if e != api.OK {
		m.end = OutOfMemory
		return nil
	}
	return &call{machine: m, method: method, list: []api.Word{x.list[0], w}}
}

// find: the method of a name.
func (m *machine) find(class, name api.Word) (api.Word, bool) {
	return m.cache.Find(m.Heap, m.root, class, name)
}

// reified: a message as an object.
func (m *machine) reified(x message) (api.Word, api.Errno) {
	args, e := m.made(sound.ArrayClass, head.Slots, x.list[1:]...)
	if e != api.OK {
		return 0, e
	}
	return m.made(sound.MessageClass, head.Fields, x.name, args)
}

// activate: a new context of a call's method runs.
func (m *machine) activate(c *call) {
	context, e := boot.Context(m.Heap, m.root, c.method, c.list[0], m.context())
	if e != api.OK {
		m.end = OutOfMemory
		return
	}
	f, _ := frame.Open(m.Heap, m.root, context)
	for i, w := range c.list[1:] {
		if f.SetTemp(i, w) != api.OK {
			m.end = Broken
		}
	}
	m.goOn(context)
}
