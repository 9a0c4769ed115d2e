package part

import (
	"statute/net"
	"statute/sum"
	"statute/whole"
)

// definition tells the sum and its upper end by which a rounded number is what it is: what was rounded, less so many
// times the number, is from 0 to the divisor less 1.
func (p *Part) definition(at int) (sum.Sum, whole.Int) {
	node := &p.Net.Nodes[at]
	rest := sum.AddTimes(node.A, node.D.Neg(), sum.Single(at))
	return rest, whole.Sub(node.D, whole.Of(1))
}

// isDefined tells whether the facts say what a rounded number is.
func (p *Part) isDefined(at int) bool {
	rest, high := p.definition(at)
	i := p.find(rest)
	if i == len(p.Facts) {
		return false
	}
	from := whole.Add(p.Facts[i].Low, rest.Constant)
	to := whole.Add(p.Facts[i].High, rest.Constant)
	return from.Sign() >= 0 && whole.Compare(to, high) <= 0
}

// define adds what a rounded number is to the facts; false if that can't be.
func (p *Part) define(at int) bool {
	rest, high := p.definition(at)
	return p.add(rest, whole.Int{}, high)
}

// Defined tells the same part with facts that say what those rounded numbers are of which there is a fact, if nothing is
// left to choose in them; false if there is no household in it.
func (p Part) Defined() (Part, bool) {
	q := p.copied()
	plain := q.plain()
	named := q.named()
	// From the last one on: what was rounded may be made of rounded numbers itself.
	for i := len(plain) - 1; i >= 0; i-- {
		if !plain[i] || !named[i] || q.Net.Nodes[i].Kind != net.Floor || q.isDefined(i) {
			continue
		}
		if !q.define(i) {
			return Part{}, false
		}
		name(named, q.Net.Nodes[i].A)
	}
	return q, true
}

// plain tells which nodes are inputs, or rounded sums of such ones.
func (p *Part) plain() []bool {
	plain := make([]bool, len(p.Net.Nodes))
	for i := 0; i < len(plain); i++ {
		node := &p.Net.Nodes[i]
		plain[i] = node.Kind == net.Input || node.Kind == net.Floor
		for j := 0; j < len(node.A.Terms) && plain[i]; j++ {
			plain[i] = plain[node.A.Terms[j].At]
		}
	}
	return plain
}

// named tells of which nodes there is a fact.
func (p *Part) named() []bool {
	named := make([]bool, len(p.Net.Nodes))
	for i := 0; i < len(p.Facts); i++ {
		name(named, p.Facts[i].Sum)
	}
	return named
}

func name(named []bool, s sum.Sum) {
	for i := 0; i < len(s.Terms); i++ {
		named[s.Terms[i].At] = true
	}
}

// IsOpen tells whether the facts leave open what a node is: a choice, or a rounded number that they do not define.
func (p *Part) IsOpen(at int) bool {
	switch p.Net.Nodes[at].Kind {
	case net.Choice:
		return true
	case net.Floor:
		return !p.isDefined(at)
	}
	return false
}

// Split tells parts which together are this one, and in which less is open: a node that is open here is defined, or a
// flag on which its choice hangs is settled.
func (p Part) Split(at int) []Part {
	node := &p.Net.Nodes[at]
	var list []Part
	if node.Kind == net.Floor {
		q := p.copied()
		if q.define(at) {
			list = append(list, q)
		}
		return list
	}
	limit := p.Net.Nodes[p.leaf(node.F)].A
	above, ok := p.With(limit)
	if ok {
		list = append(list, above)
	}
	below, ok := p.With(net.Contrary(limit))
	if ok {
		list = append(list, below)
	}
	return list
}

// leaf tells a node on which a flag hangs and which compares a sum with 0.
func (p *Part) leaf(f net.Flag) int {
	at := f.At
	for p.Net.Nodes[at].Kind == net.Both {
		at = p.Net.Nodes[at].F.At
	}
	return at
}
