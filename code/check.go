package code

import "foundling/api"

// fault: what a check gives up with.
type fault struct{ e api.Errno }

// checker: code, what it may name, by the place of each instruction the part in which it stands (as the place where that begins), by that of each one that is reached the depth ahead of it; the places of which it isn't known yet what is reached behind them, and the greatest depth.
type checker struct {
	code                []byte
	lits, slots, fields int
	parts, depths       map[int]int
	open                []int
	most                int
}

// giveUp: by a panic that Check catches.
func (c *checker) giveUp(e api.Errno) { panic(fault{e}) }

// look: at all that stands in the bytes. Of the errors that there may be here ErrForm is the least, and told at once.
func (c *checker) look() {
	if !c.part(0, len(c.code)) {
		c.giveUp(api.ErrEnd)
	}
}

// part: from a place to another one; false: somewhere in it more is asked than stands there.
func (c *checker) part(from, to int) bool {
	isWhole := true
	var goals []int
	for at := from; at < to; {
		c.parts[at] = from
		i, behind, e := Decode(c.code[:to], at)
		if e == api.ErrForm || e == api.OK && !c.isNamed(i) {
			c.giveUp(api.ErrForm)
		}
		at = behind + blockSize(i)
		if e != api.OK || at > to {
			isWhole = false
			break
		}
		if i.Op == Block && !c.part(behind, at) {
			isWhole = false
		}
		if isJump(i) {
			goals = append(goals, behind+i.A)
		}
	}
	for _, goal := range goals {
		if !c.isIn(goal, from) {
			c.giveUp(api.ErrForm)
		}
	}
	return isWhole
}

// isNamed: is what it names by a number there?
func (c *checker) isNamed(i Instr) bool {
	switch i.Op {
	case PushLit, Send, SuperSend:
		return i.A < c.lits
	case PushTemp, StoreTemp:
		return i.A < c.slots
	case PushField, StoreField:
		return i.A < c.fields
	}
	return true
}

// blockSize: how many bytes behind an instruction are a block's.
func blockSize(i Instr) int {
	if i.Op == Block {
		return i.B
	}
	return 0
}

func isJump(i Instr) bool { return i.Op == Jump || i.Op == JumpTrue || i.Op == JumpFalse }

// isLast: is nothing behind it reached by it?
func isLast(i Instr) bool { return i.Op == Jump || i.Op == Return || i.Op == End }

// isIn: does an instruction of that part begin at a place?
func (c *checker) isIn(at, part int) bool {
	in, isThere := c.parts[at]
	return isThere && in == part
}

// run: the code, whichever way its jumps go.
func (c *checker) run() {
	c.reach(0, 0, 0)
	for len(c.open) > 0 {
		last := len(c.open) - 1
		at := c.open[last]
		c.open = c.open[:last]
		c.step(at)
	}
	if c.most > api.MaxStack {
		c.giveUp(api.ErrSize)
	}
}

// reach: an instruction, which has to be of that part, with a depth.
func (c *checker) reach(at, part, depth int) {
	before, isReached := c.depths[at]
	switch {
	case !c.isIn(at, part) || isReached && before != depth:
		c.giveUp(api.ErrForm)
	case !isReached:
		c.depths[at] = depth
		c.most = max(c.most, depth)
		c.open = append(c.open, at)
	}
}

// step: from an instruction that is reached to all that it reaches.
func (c *checker) step(at int) {
	i, behind, _ := Decode(c.code, at)
	part, depth := c.parts[at], c.depths[at]
	takes := forms[i.Op].takes
	if i.Op == Send || i.Op == SuperSend {
		takes += i.B
	}
	if depth < takes || i.Op == End && part == 0 {
		c.giveUp(api.ErrForm)
	}
	depth += forms[i.Op].puts - takes
	if i.Op == Block {
		c.reach(behind, behind, i.A)
	}
	if isJump(i) {
		c.reach(behind+i.A, part, depth)
	}
	if !isLast(i) {
		c.reach(behind+blockSize(i), part, depth)
	}
}
