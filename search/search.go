// Package search: the least household at which two programs differ. It parts the households only by flags that matter,
// and always goes on in the part where the least household might be.
package search

import (
	"statute/least"
	"statute/net"
	"statute/part"
	"statute/plan"
	"statute/sum"
	"statute/whole"
)

// outcome: what a search came to.
type outcome int

const (
	none  outcome = iota // the programs come to the same for every household
	found                // there is a least household at which they differ
	open                 // the search was given up
)

const (
	noLimit   = 0
	someParts = 300    // how many parts are looked at, ahead of anything that takes longer
	fewHomes  = 100000 // so many households may be tried one by one
	corners   = 200    // how many of a part are gone to, ahead of what takes longer
	manyNamed = 20     // with more nodes than that, it is better to part than to learn more of them
)

// effort: how many parts may be looked at, or noLimit, and how many corners of each are gone to.
type effort struct {
	parts, corners int
}

// First tells the least household at which the outs of two plans with the same inputs differ; false if there is none.
func First(high, low plan.Plan) ([]int, bool) {
	s := begun(high, low, nil, effort{someParts, corners})
	home, result := s.run()
	if result != open {
		return home, result == found
	}
	if areFew(high, fewHomes) {
		return tried(high, low)
	}
	same := alike(high, low, s.homes)
	s = begun(high, low, same, effort{noLimit, corners})
	home, result = s.run()
	return home, result == found
}

// search: the claims of all parts that may hold a household at which the plans differ.
type search struct {
	high, low plan.Plan
	heap      heap
	homes     [][]int // at which the plans turned out to come to the same
	most      effort
	looked    int // at how many parts
}

// begun enters the parts at which one out of the first plan is greater than that of the second, or less. Same tells for
// nodes of the low plan those of the high plan that always come to the same.
func begun(high, low plan.Plan, same []int, most effort) *search {
	s := &search{high: high, low: low, most: most}
	n := net.New(net.SpansOf(high))
	first := n.Program(high, nil)
	second := n.Program(low, knownBy(same, first))
	all := part.New(n)
	for i := 0; i < len(high.Outs) && i < len(low.Outs); i++ {
		a := first.Values[high.Outs[i]]
		b := second.Values[low.Outs[i]]
		s.enterAbove(all, sum.Sub(a, b))
		s.enterAbove(all, sum.Sub(b, a))
	}
	return s
}

// enterAbove enters the part of a part at which a sum is above 0.
func (s *search) enterAbove(p part.Part, difference sum.Sum) {
	above, ok := p.With(difference.Raised(whole.Of(-1)))
	if ok {
		s.enter(above)
	}
}

// run goes on with the claim of the least household until that is one at which the plans differ. Each time, less is open
// in the parts that take the place of one: so it ends.
func (s *search) run() ([]int, outcome) {
	for len(s.heap.claims) > 0 {
		c := s.heap.pop()
		if plan.FirstParting(s.high, s.low, c.home) >= 0 {
			return c.home, found
		}
		if s.most.parts != noLimit && s.looked >= s.most.parts {
			return nil, open
		}
		s.homes = append(s.homes, c.home)
		s.goOn(c)
	}
	return nil, none
}

// enter claims what can be said of a part, unless there is no household in it.
func (s *search) enter(p part.Part) {
	s.looked++
	p, ok := p.Simplified()
	if !ok {
		return
	}
	p, ok = p.Defined()
	if !ok {
		return
	}
	named := p.Named()
	point, state := least.Point(p.Box(named), s.most.corners)
	if state != least.None {
		s.heap.push(claim{p, named, point, homeOf(p, named, point), state == least.Found})
	}
}

// homeOf tells the least household of a part in which the named nodes are not less than a point.
func homeOf(p part.Part, named []int, point []whole.Int) []int {
	home := make([]int, len(p.Net.Spans))
	for i := 0; i < len(home); i++ {
		home[i] = small(p.Net.Spans[i].Low)
	}
	for i := 0; i < len(named) && i < len(point); i++ {
		node := &p.Net.Nodes[named[i]]
		if node.Kind == net.Input {
			home[node.K] = small(point[i])
		}
	}
	return home
}

func small(a whole.Int) int {
	v, _ := a.Small()
	return v
}

// goOn parts the part of a claim whose household turned out to be none: something is open there.
func (s *search) goOn(c claim) {
	if c.sure && len(c.named) <= manyNamed {
		limited, ok := c.part.Limited(c.named, c.taken())
		if ok {
			s.enter(limited)
			return
		}
	}
	at := c.openNode()
	if at < 0 {
		s.settle(c)
		return
	}
	parts := c.part.Split(at)
	for i := 0; i < len(parts); i++ {
		s.enter(parts[i])
	}
}
