package find

import (
	"foundling/api"
	"foundling/heap"
)

// most: pairs of a class and a name that are remembered at once.
const most = 512

// Cache: remembers what was found.
type Cache struct {
	found map[[2]api.Word]api.Word // methods, by class and name
	hits  int
}

// Find: as Lookup.
func (c *Cache) Find(h *heap.Heap, root, class, name api.Word) (api.Word, bool) {
	pair := [2]api.Word{class, name}
	if method, isThere := c.found[pair]; isThere {
		c.hits++
		return method, true
	}
	method, _, isThere := Lookup(h, root, class, name)
	if isThere {
		c.remember(pair, method)
	}
	return method, isThere
}

// remember: one pair more.
func (c *Cache) remember(pair [2]api.Word, method api.Word) {
	if c.found == nil || len(c.found) == most {
		c.found = map[[2]api.Word]api.Word{}
	}
	c.found[pair] = method
}

// Forget: all.
func (c *Cache) Forget() { c.found = nil }

// Len: how many pairs.
func (c *Cache) Len() int { return len(c.found) }

// Hits: how often it didn't look.
func (c *Cache) Hits() int { return c.hits }
