package prim

import (
	"bytes"

	"foundling/api"
	"foundling/head"
	"foundling/intern"
	"foundling/small"
	"foundling/sound"
)

// bytes: those of a word of the list.
func (c *call) bytes(i int) []byte {
	ask(c.isText(c.list[i]))
	b, _ := c.Bytes(c.list[i])
	return b
}

// made: a new String of bytes.
func (c *call) made(b ...byte) api.Word {
	w := got(c.Alloc(c.special(sound.StringClass), head.Raw, len(b), 0))
	for i, x := range b {
		c.PutByte(w, i, x)
	}
	return w
}

func (c *call) digits() api.Word { return c.made([]byte(small.Text(c.number(0)))...) }

func (c *call) symbol() api.Word {
	return got(intern.Intern(c.Heap, c.root, string(c.bytes(0))))
}

func (c *call) text() api.Word { return c.made(c.bytes(0)...) }

func (c *call) isTextBelow() api.Word { return c.truth(bytes.Compare(c.bytes(0), c.bytes(1)) < 0) }

func (c *call) isTextAlike() api.Word { return c.truth(bytes.Equal(c.bytes(0), c.bytes(1))) }

func (c *call) joined() api.Word { return c.made(append(c.bytes(0), c.bytes(1)...)...) }

func (c *call) part() api.Word {
	b, from, to := c.bytes(0), c.number(1), c.number(2)
	ask(from >= 1 && from-1 <= to && to <= int64(len(b)))
	return c.made(b[from-1 : to]...)
}

func (c *call) parsed() api.Word {
	n, e := small.Parse(string(c.bytes(0)))
	ask(e == api.OK)
	return word(n)
}

func (c *call) put() api.Word {
	b := c.bytes(0)
	ask(c.port != nil)
	c.port.Put(b...)
	return c.receiver()
}

func (c *call) take() api.Word {
	ask(c.port != nil)
	b, isThere := c.port.Take()
	if !isThere {
		return c.special(sound.Nil)
	}
	return word(b)
}
