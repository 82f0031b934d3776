package vm

import (
	"bytes"

	"foundling/api"
	"foundling/boot"
	"foundling/prim"
	"foundling/small"
)

// What comes of a primitive.
const (
	failed = iota
	done
	asks // another message is to be sent in its stead
)

// call: of a method, with the receiver and the arguments.
type call struct {
	*machine
	method api.Word
	list   []api.Word
	asked  message
}

// port: where the machine's bytes go to, and come from.
type port struct{ *machine }

// Put: they happen outside.
func (p port) Put(b ...byte) {
	p.events = append(p.events, Event{Kind: Out, Bytes: bytes.Clone(b)})
}

// Take: the next one of the input.
func (p port) Take() (byte, bool) {
	if len(p.input) == 0 {
		return 0, false
	}
	b := p.input[0]
	p.input = p.input[1:]
	return b, true
}

// primitive: that of the method; it fails, if there is none. Layer 22 has none of the numbers that the machine has.
func (c *call) primitive() int {
	header, _ := small.Value(c.word(c.method, headerAt))
	_, _, _, n := boot.Parts(header)
	if n == 0 {
		return failed
	}
	if d, isOwn := c.deeds[n]; isOwn && len(c.list) == d.args+1 {
		return d.do(c)
	}
	return c.plain(n)
}

// plain: one of layer 22's. If it finds no room, it has changed nothing, and is done again behind a collection.
func (c *call) plain(n int) int {
	w, isDone, e := c.tried(n)
	if e != api.OK {
		moved := c.collect(append(c.list, c.method)...)
		c.list, c.method = moved[:len(c.list)], moved[len(c.list)]
		w, isDone, e = c.tried(n)
	}
	switch {
	case e != api.OK:
		c.end = OutOfMemory
		return done
	case !isDone:
		return failed
	}
	return c.answer(w)
}

func (c *call) tried(n int) (api.Word, bool, api.Errno) {
	return prim.Run(c.Heap, c.root, n, port{c.machine}, c.list...)
}

// receiver: the first word of the list.
func (c *call) receiver() api.Word { return c.list[0] }

// answer: pushes it.
func (c *call) answer(w api.Word) int {
	c.push(w)
	return done
}

// number: answers it; it fails, if there is none.
func (c *call) number(n int) int {
	w, e := small.Of(int64(n))
	if e != api.OK {
		return failed
	}
	return c.answer(w)
}
