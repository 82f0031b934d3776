package prim

import (
	"foundling/api"
	"foundling/small"
	"foundling/sound"
)

// failure: what a primitive gives up with: OK, if it fails, else why it couldn't be done.
type failure struct{ e api.Errno }

// call: of a primitive: the memory in which it is done, where bytes go to and come from, its receiver with the arguments.
type call struct {
	memory
	port Port
	list []api.Word
}

// ask: gives up by a panic that Run catches, unless something is so.
func ask(isSo bool) {
	if !isSo {
		panic(failure{})
	}
}

// got: a word that was to be had; ErrFull is told, anything else makes the primitive fail.
func got(w api.Word, e api.Errno) api.Word {
	if e == api.ErrFull {
		panic(failure{e})
	}
	ask(e == api.OK)
	return w
}

// receiver: the first word of the list.
func (c *call) receiver() api.Word { return c.list[0] }

// number: that which a word of the list is.
func (c *call) number(i int) int64 {
	n, e := small.Value(c.list[i])
	ask(e == api.OK)
	return n
}

// truth: its object.
func (c *call) truth(isSo bool) api.Word {
	if isSo {
		return c.special(sound.True)
	}
	return c.special(sound.False)
}

// word: a number's.
func word[T int | int64 | uint32 | byte](n T) api.Word { return got(small.Of(int64(n))) }
