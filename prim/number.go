package prim

import (
	"cmp"

	"foundling/api"
	"foundling/small"
)

func (c *call) add() api.Word   { return got(small.Add(c.list[0], c.list[1])) }
func (c *call) sub() api.Word   { return got(small.Sub(c.list[0], c.list[1])) }
func (c *call) mul() api.Word   { return got(small.Mul(c.list[0], c.list[1])) }
func (c *call) floor() api.Word { return got(small.Floor(c.list[0], c.list[1])) }
func (c *call) mod() api.Word   { return got(small.Mod(c.list[0], c.list[1])) }
func (c *call) quo() api.Word   { return got(small.Quo(c.list[0], c.list[1])) }
func (c *call) rem() api.Word   { return got(small.Rem(c.list[0], c.list[1])) }
func (c *call) and() api.Word   { return got(small.And(c.list[0], c.list[1])) }
func (c *call) or() api.Word    { return got(small.Or(c.list[0], c.list[1])) }
func (c *call) xor() api.Word   { return got(small.Xor(c.list[0], c.list[1])) }
func (c *call) shift() api.Word { return got(small.Shift(c.list[0], c.list[1])) }

func (c *call) isBelow() api.Word    { return c.truth(c.order() < 0) }
func (c *call) isAbove() api.Word    { return c.truth(c.order() > 0) }
func (c *call) isNotAbove() api.Word { return c.truth(c.order() <= 0) }
func (c *call) isNotBelow() api.Word { return c.truth(c.order() >= 0) }
func (c *call) isAlike() api.Word    { return c.truth(c.order() == 0) }
func (c *call) isUnlike() api.Word   { return c.truth(c.order() != 0) }

// order: below 0, if the receiver is below its argument; above 0, if it is above.
func (c *call) order() int { return cmp.Compare(c.number(0), c.number(1)) }
