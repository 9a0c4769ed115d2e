package search

import (
	"statute/net"
	"statute/plan"
)

const (
	nowhere = -1
	tries   = 8  // how many nodes of the high plan are tried for one of the low plan
	aFew    = 60 // how many parts a try looks at
	spread  = 64 // how many households are spread over all of them
)

// likeness: which nodes of the low plan always come to the same as one of the high plan. Two long programs may be the
// same step by step, while the ways through both of them together are far too many.
type likeness struct {
	high, low plan.Plan
	same      []int   // for each node of the low plan that of the high plan, or nowhere
	highs     [][]int // for some households, the values of all nodes
	lows      [][]int
}

// alike tells, for each node of the low plan, a node of the high plan that always comes to the same, or -1 if it knows
// none. Homes are some households to begin with.
func alike(high, low plan.Plan, homes [][]int) []int {
	l := &likeness{high: high, low: low}
	for i := 0; i < len(homes); i++ {
		l.learn(homes[i])
	}
	for k := 0; k < spread; k++ {
		l.learn(spreadHome(high, k))
	}
	for i := 0; i < len(low.Nodes); i++ {
		l.same = append(l.same, nowhere)
	}
	for i := 0; i < len(low.Nodes); i++ {
		// What only adds up is the same by itself if what it adds up is.
		if low.Nodes[i].Op == plan.If || low.Nodes[i].Op == plan.Down {
			l.same[i] = l.find(i)
		}
	}
	return l.same
}

// spreadHome tells one of the households that are spread over all, the least and the greatest one ahead.
func spreadHome(p plan.Plan, k int) []int {
	const ends = 1000003
	home := make([]int, len(p.Inputs))
	for i := 0; i < len(home); i++ {
		span := p.Inputs[i]
		place := (k*len(home) + i) * 618041 % ends
		home[i] = span.Lo + (span.Hi-span.Lo)*place/ends
		if k == 0 {
			home[i] = span.Lo
		}
		if k == 1 {
			home[i] = span.Hi
		}
	}
	return home
}

// learn keeps what all nodes come to for a household.
func (l *likeness) learn(home []int) {
	highs := allTold(l.high)
	lows := allTold(l.low)
	l.highs = append(l.highs, highs.Run(home))
	l.lows = append(l.lows, lows.Run(home))
}

// allTold tells a plan of which every node is an out.
func allTold(p plan.Plan) plan.Plan {
	p.Outs = make([]int, len(p.Nodes))
	for i := 0; i < len(p.Outs); i++ {
		p.Outs[i] = i
	}
	return p
}

// find tells a node of the high plan that always comes to the same as one of the low plan, or nowhere.
func (l *likeness) find(at int) int {
	count := 0
	for i := 0; i < len(l.high.Nodes) && count < tries; i++ {
		if l.high.Nodes[i].Op.IsFlag() || !l.seemSame(i, at) {
			continue
		}
		count++
		s := begun(told(l.high, i), told(l.low, at), l.same, effort{aFew, corners})
		home, result := s.run()
		if result == none {
			return i
		}
		if result == found {
			l.learn(home)
		}
	}
	return nowhere
}

// seemSame tells whether two nodes come to the same for all households that were learned.
func (l *likeness) seemSame(high, low int) bool {
	for k := 0; k < len(l.highs); k++ {
		if l.highs[k][high] != l.lows[k][low] {
			return false
		}
	}
	return true
}

// told tells a plan of which one node is the only out.
func told(p plan.Plan, at int) plan.Plan {
	p.Outs = []int{at}
	return p
}

// knownBy tells the sums of the nodes of the low plan that are the same as some of the high plan.
func knownBy(same []int, first net.Program) []net.Known {
	known := make([]net.Known, len(same))
	for i := 0; i < len(same); i++ {
		if same[i] >= 0 && same[i] < len(first.Values) {
			known[i] = net.Known{Is: true, Sum: first.Values[same[i]]}
		}
	}
	return known
}
