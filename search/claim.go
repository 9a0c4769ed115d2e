package search

import (
	"statute/part"
	"statute/whole"
)

// claim: in a part of the households there is none at which the programs differ that is less than home. If it is sure,
// home is where the facts of the part hold if the nodes that they name are what point says.
type claim struct {
	part  part.Part
	named []int
	point []whole.Int
	home  []int
	sure  bool
}

// isAhead tells whether a claim comes ahead of another one: the lesser household, and of equal ones the part that is
// known better.
func (c *claim) isAhead(d *claim) bool {
	for i := 0; i < len(c.home) && i < len(d.home); i++ {
		if c.home[i] != d.home[i] {
			return c.home[i] < d.home[i]
		}
	}
	return len(c.part.Facts) > len(d.part.Facts)
}

// values tells what the nodes are at the household.
func (c *claim) values() []whole.Int {
	home := make([]whole.Int, len(c.home))
	for i := 0; i < len(home); i++ {
		home[i] = whole.Of(c.home[i])
	}
	return c.part.Net.Run(home)
}

// taken tells what the nodes are at the household, but for the named ones, of which it tells what they were taken for.
func (c *claim) taken() []whole.Int {
	values := c.values()
	for i := 0; i < len(c.named) && i < len(c.point); i++ {
		values[c.named[i]] = c.point[i]
	}
	return values
}

// openNode tells the last named node that is open and, if the claim is sure, is not what it was taken for; or -1.
func (c *claim) openNode() int {
	values := c.values()
	for i := len(c.named) - 1; i >= 0; i-- {
		at := c.named[i]
		if c.sure && i < len(c.point) && whole.Compare(values[at], c.point[i]) == 0 {
			continue
		}
		if c.part.IsOpen(at) {
			return at
		}
	}
	return -1
}

// heap: claims, each of them ahead of the two that stand at twice its place.
type heap struct {
	claims []claim
}

func (h *heap) push(c claim) {
	h.claims = append(h.claims, c)
	at := len(h.claims) - 1
	for at > 0 && h.claims[at].isAhead(&h.claims[(at-1)/2]) {
		h.exchange(at, (at-1)/2)
		at = (at - 1) / 2
	}
}

// pop takes the claim that is ahead of all others; there must be one.
func (h *heap) pop() claim {
	first := h.claims[0]
	last := len(h.claims) - 1
	h.exchange(0, last)
	h.claims[last] = claim{}
	h.claims = h.claims[:last]
	at := 0
	for {
		next := h.firstOf(at)
		if next == at {
			return first
		}
		h.exchange(at, next)
		at = next
	}
}

// firstOf tells which of a claim and the two below it is ahead of the others.
func (h *heap) firstOf(at int) int {
	best := at
	for i := 2*at + 1; i <= 2*at+2; i++ {
		if i < len(h.claims) && h.claims[i].isAhead(&h.claims[best]) {
			best = i
		}
	}
	return best
}

func (h *heap) exchange(i, j int) {
	c := h.claims[i]
	h.claims[i] = h.claims[j]
	h.claims[j] = c
}
