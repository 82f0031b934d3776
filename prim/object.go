package prim

import (
	"foundling/api"
	"foundling/find"
	"foundling/head"
	"foundling/small"
	"foundling/sound"
)

func (c *call) isSame() api.Word { return c.truth(c.list[0] == c.list[1]) }

func (c *call) class() api.Word {
	class := c.classOf(c.receiver())
	ask(class != 0)
	return class
}

// hash: a number's own is itself.
func (c *call) hash() api.Word {
	if small.Is(c.receiver()) {
		return c.receiver()
	}
	tag, e := c.Tag(c.receiver())
	ask(e == api.OK)
	return word(tag)
}

// newFields: of a class that isn't shut, but also of Semaphore, which has no other way to its objects. What is of a class's class without being the class is on no way up to Object: in sound memory there are no objects of it. A class's class is shut, as it is below Class.
func (c *call) newFields() api.Word {
	class := c.receiver()
	ask(c.isKin(class, sound.ObjectClass) && !c.isShut(class, sound.SemaphoreClass))
	kind, count := c.format(class)
	ask(kind == head.Fields)
	return got(c.Alloc(class, kind, count, c.special(sound.Nil)))
}

// newList: what has no name, words or bytes. Of another count than may be the heap has no object, whatever its room.
func (c *call) newList() api.Word {
	class, count := c.receiver(), c.number(1)
	ask(c.isKin(class, sound.ArrayClass) || c.isKin(class, sound.StringClass))
	ask(!c.isKin(class, sound.SymbolClass))
	kind, _ := c.format(class)
	ask(kind == head.Slots || kind == head.Raw)
	return got(c.Alloc(class, kind, int(count), c.special(sound.Nil)))
}

// index: the word, or byte, that the argument counts from 1 on. That there is one the heap tells.
func (c *call) index() int { return int(c.number(1)) - 1 }

func (c *call) at() api.Word {
	r := c.receiver()
	if c.isList(r) {
		return got(c.Get(r, c.index()))
	}
	ask(c.isText(r))
	b, e := c.Byte(r, c.index())
	ask(e == api.OK)
	return word(b)
}

func (c *call) atPut() api.Word {
	r, x := c.receiver(), c.list[2]
	if c.isList(r) {
		ask(c.classOf(x) != 0) // what is no word of memory doesn't come into it
		return got(x, c.Put(r, c.index(), x))
	}
	ask(c.isText(r) && !c.isSymbolic(r))
	n := c.number(2)
	ask(n >= 0 && n <= 255)
	return got(x, c.PutByte(r, c.index(), byte(n)))
}

func (c *call) count() api.Word {
	r := c.receiver()
	ask(c.isList(r) || c.isText(r))
	return word(c.size(r))
}

func (c *call) become() api.Word {
	r, a := c.receiver(), c.list[1]
	ask(c.isOpen(r) && c.isOpen(a))
	ask(c.classOf(r) == c.classOf(a) || !c.isNamed(r) && !c.isNamed(a))
	return got(r, c.Swap(r, a))
}

func (c *call) like() api.Word {
	r := c.receiver()
	ask(c.isOpen(r))
	d, _ := c.Head(r)
	w := got(c.Alloc(d.Class, d.Kind, d.Size, 0))
	for i := range d.Size {
		if d.Kind == head.Raw {
			b, _ := c.Byte(r, i)
			c.PutByte(w, i, b)
		} else {
			x, _ := c.Get(r, i)
			c.Put(w, i, x)
		}
	}
	return w
}

func (c *call) understands() api.Word {
	class, name := c.class(), c.list[1]
	ask(c.isOf(name, sound.SymbolClass))
	_, _, isThere := find.Lookup(c.Heap, c.root, class, name)
	return c.truth(isThere)
}

func (c *call) name() api.Word {
	r := c.receiver()
	ask(c.isClass(r))
	return got(c.Get(r, sound.Name))
}

func (c *call) super() api.Word {
	r := c.receiver()
	ask(c.isClass(r) || c.isOf(r, sound.MetaClass))
	return got(c.Get(r, sound.Super))
}
