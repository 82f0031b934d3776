package frame

import (
	"foundling/api"
	"foundling/boot"
)

// stack: the number of its first word in the context, how many places it has, how many of them are used.
type stack struct{ first, places, top int }

// stack: that of the context.
func (f *Frame) stack() (stack, api.Errno) {
	slots, e := f.slots()
	if e != api.OK {
		return stack{}, e
	}
	top, e := f.number(boot.Top)
	s := stack{first: boot.First + slots, top: top}
	s.places = max(f.size()-s.first, 0)
	if e != api.OK || top < 0 || top > s.places {
		return stack{}, api.ErrKind
	}
	return s, api.OK
}

// size: how many words the context has.
func (f *Frame) size() int {
	f = f.there()
	return f.memory.size(f.context)
}

// Depth: of its stack.
func (f *Frame) Depth() int {
	s, _ := f.stack()
	return s.top
}

// Push: one more.
func (f *Frame) Push(w api.Word) api.Errno {
	s, e := f.stack()
	if e != api.OK {
		return e
	}
	if s.top == s.places {
		return api.ErrFull
	}
	f.put(s.first+s.top, w)
	return f.put(boot.Top, number(s.top+1))
}

// Pop: the last one. If there is none, Drop tells why.
func (f *Frame) Pop() (api.Word, api.Errno) {
	w, _ := f.Peek(0)
	return w, f.Drop(1)
}

// Peek: one of the last ones.
func (f *Frame) Peek(n int) (api.Word, api.Errno) {
	if n < 0 {
		return 0, api.ErrNone
	}
	s, e := f.stack()
	if e != api.OK {
		return 0, e
	}
	if n >= s.top {
		return 0, api.ErrNone
	}
	return f.word(s.first + s.top - 1 - n), api.OK
}

// Drop: some of the last ones.
func (f *Frame) Drop(n int) api.Errno {
	if n < 0 {
		return api.ErrArg
	}
	s, e := f.stack()
	if e != api.OK {
		return e
	}
	if n > s.top {
		return api.ErrNone
	}
	for i := range n {
		f.put(s.first+s.top-1-i, number(0))
	}
	return f.put(boot.Top, number(s.top-n))
}
