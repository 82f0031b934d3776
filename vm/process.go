package vm

import (
	"foundling/api"
	"foundling/boot"
	"foundling/head"
	"foundling/image"
	"foundling/proc"
	"foundling/small"
	"foundling/sound"
)

// priorityOf: a process's; 0 of what is none.
func (c *call) priorityOf(p api.Word) int { return proc.Priority(c.Heap, c.root, p) }

func (c *call) waits(p api.Word) bool { return proc.Waits(c.Heap, c.root, p) }

func (c *call) process() int {
	context, e := c.entered(c.nothing())
	if e != api.OK {
		return failed
	}
	priority, _ := small.Of(int64(c.priorityOf(c.active())))
	p, e := c.made(sound.ProcessClass, head.Fields, context, priority, c.nothing(), c.nothing())
	if e != api.OK {
		return failed
	}
	return c.answer(p)
}

func (c *call) resume() int {
	p := c.receiver()
	if c.priorityOf(p) == 0 || c.isOver(p) || p == c.active() || c.waits(p) {
		return failed
	}
	c.answer(p)
	proc.Ready(c.Heap, c.root, p)
	c.maybeFirst(p)
	return done
}

// maybeFirst: a process that waits to run doesn't wait for an active one of less priority.
func (c *call) maybeFirst(p api.Word) {
	if c.priorityOf(p) > c.priorityOf(c.active()) {
		c.giveWay()
	}
}

func (c *call) suspend() int {
	p := c.receiver()
	switch {
	case p == c.active():
		c.answer(p)
		c.setActive(c.nothing())
	case proc.Remove(c.Heap, c.root, p):
		c.answer(p)
	default:
		return failed
	}
	return done
}

func (c *call) terminate() int {
	p := c.receiver()
	if c.priorityOf(p) == 0 {
		return failed
	}
	c.answer(p)
	c.finish(p)
	return done
}

func (c *call) yield() int {
	c.answer(c.receiver())
	if proc.Top(c.Heap, c.root) >= c.priorityOf(c.active()) {
		c.giveWay()
	}
	return done
}

func (c *call) priority() int {
	n := c.priorityOf(c.receiver())
	if n == 0 {
		return failed
	}
	return c.number(n)
}

func (c *call) setPriority() int {
	p := c.receiver()
	n, e := small.Value(c.list[1])
	if e != api.OK || !proc.SetPriority(c.Heap, c.root, p, int(n)) {
		return failed
	}
	c.answer(p)
	if p == c.active() && proc.Top(c.Heap, c.root) > int(n) {
		c.giveWay()
	}
	return done
}

func (c *call) running() int { return c.answer(c.active()) }

func (c *call) setup() int {
	if !proc.Setup(c.Heap, c.root, c.receiver()) {
		return failed
	}
	return c.answer(c.receiver())
}

func (c *call) wait() int {
	waits, isDone := proc.Wait(c.Heap, c.root, c.receiver(), c.active())
	if !isDone {
		return failed
	}
	c.answer(c.receiver())
	if waits {
		c.setActive(c.nothing())
	}
	return done
}

func (c *call) wake() int {
	p, isDone := c.signal(c.receiver())
	if !isDone {
		return failed
	}
	c.answer(c.receiver())
	c.maybeFirst(p)
	return done
}

func (c *call) setTimer() int {
	s := c.receiver()
	if s != c.nothing() && !c.isSemaphore(s) {
		return failed
	}
	c.Put(c.special(sound.Schedule), boot.Timer, s)
	return c.answer(s)
}

func (c *call) counted() int { return c.number(c.count) }

func (c *call) tidy() int {
	c.answer(c.receiver())
	c.collect()
	return done
}

// save: whoever loads the snapshot goes on with true, who has saved it with false.
func (c *call) save() int {
	c.events = append(c.events, Event{Kind: Saved})
	c.answer(c.special(sound.True))
	c.image, _ = image.Encode(c.Heap, c.root)
	c.frame().Drop(1)
	return c.answer(c.special(sound.False))
}

func (c *call) quit() int {
	c.answer(c.receiver())
	c.end = Quit
	return done
}
