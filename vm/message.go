package vm

import (
	"slices"

	"foundling/api"
	"foundling/frame"
	"foundling/lex"
	"foundling/sound"
)

func (c *call) perform() int { return c.ask(c.list[2:]...) }

func (c *call) performAll() int {
	args, isList := c.words(c.list[2])
	if !isList {
		return failed
	}
	return c.ask(args...)
}

// ask: for a message of the symbol that is handed in, with these arguments.
func (c *call) ask(args ...api.Word) int {
	name := c.list[1]
	if !c.isOf(name, sound.SymbolClass) || lex.Arity(c.text(name)) != len(args) {
		return failed
	}
	c.asked = c.toOwn(name, slices.Concat(c.list[:1], args))
	return asks
}

func (c *call) value() int { return c.enter(c.list[1:]...) }

func (c *call) valueAll() int {
	args, isList := c.words(c.list[1])
	if !isList {
		return failed
	}
	return c.enter(args...)
}

// enter: the receiver's context runs, and goes back to the one that runs now.
func (c *call) enter(args ...api.Word) int {
	context, e := c.entered(c.context(), args...)
	if e != api.OK {
		return failed
	}
	c.goOn(context)
	return done
}

// entered: a new context of the receiver, if that is a Block of so many parameters.
func (c *call) entered(sender api.Word, args ...api.Word) (api.Word, api.Errno) {
	return frame.Enter(c.Heap, c.root, c.receiver(), sender, args...)
}

func (c *call) params() int {
	if !c.isOf(c.receiver(), sound.BlockClass) {
		return failed
	}
	return c.answer(c.word(c.receiver(), paramsAt))
}
