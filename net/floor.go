package net

import (
	"statute/sum"
	"statute/whole"
)

// Floor tells a by d, which is at least 1, rounded down. What is a multiple of d stands outside of the node; what is
// left is by the least divisor that there may be, with the first factor above 0.
func (n *Net) Floor(a sum.Sum, d whole.Int) sum.Sum {
	outside, rest := parted(a, d)
	if rest.IsNumber() {
		return outside
	}
	divisor := whole.Gcd(rest.Divisor(), d)
	rest = rest.Divided(divisor)
	d = whole.Div(d, divisor)
	if rest.Sign() > 0 {
		rounded := n.floorOfRest(rest, d)
		return sum.Add(outside, rounded)
	}
	// Rounding down is the opposite of rounding the opposite up.
	opposite := sum.Mul(whole.Of(-1), rest)
	more, rest := parted(opposite.Raised(whole.Sub(d, whole.Of(1))), d)
	rounded := n.floorOfRest(rest, d)
	return sum.Sub(outside, sum.Add(more, rounded))
}

// parted tells a sum as d times one, and a rest whose terms count at most half of d times, and whose constant is from 0
// to d - 1.
func parted(a sum.Sum, d whole.Int) (sum.Sum, sum.Sum) {
	outside := sum.Number(whole.Div(a.Constant, d))
	for i := 0; i < len(a.Terms); i++ {
		// The nearest quotient, and of two that are as near the lesser one: so half of d stays above 0.
		doubled := whole.Add(a.Terms[i].Times, a.Terms[i].Times)
		opposite := whole.Div(whole.Sub(d, doubled), whole.Add(d, d))
		outside = sum.AddTimes(outside, opposite.Neg(), sum.Single(a.Terms[i].At))
	}
	return outside, sum.AddTimes(a, d.Neg(), outside)
}

// floorOfRest keeps the node of a rest that is rounded, unless that can be told by another one.
func (n *Net) floorOfRest(rest sum.Sum, d whole.Int) sum.Sum {
	first := rest.Terms[0]
	inner := n.Nodes[first.At]
	if len(rest.Terms) == 1 && inner.Kind == Floor && whole.Compare(first.Times, whole.Of(1)) == 0 {
		// What is rounded twice may be rounded once.
		raised := inner.A.Raised(whole.Mul(inner.D, rest.Constant))
		return n.Floor(raised, whole.Mul(inner.D, d))
	}
	for i := 0; i < len(n.Nodes); i++ {
		if n.Nodes[i].Kind == Floor && whole.Compare(n.Nodes[i].D, d) == 0 && sum.SameTerms(n.Nodes[i].A, rest) {
			return n.floorBeside(i, rest)
		}
	}
	r := n.Range(rest)
	r = Span{whole.Div(r.Low, d), whole.Div(r.High, d)}
	return n.keepValue(Node{Kind: Floor, A: rest, D: d, Range: r})
}

// floorBeside tells a sum rounded down, given the node of one that differs by its constant alone, and by less than the
// divisor: so the one is the other, or 1 beside it, as the rest of the division says.
func (n *Net) floorBeside(at int, s sum.Sum) sum.Sum {
	d := n.Nodes[at].D
	other := sum.Single(at)
	rest := sum.AddTimes(s, d.Neg(), other)
	order := whole.Compare(s.Constant, n.Nodes[at].A.Constant)
	if order > 0 {
		above := n.AtLeast(rest.Raised(d.Neg()))
		more := n.Choose(above, sum.Number(whole.Of(1)), sum.Sum{})
		return sum.Add(other, more)
	}
	if order < 0 {
		reached := n.AtLeast(rest)
		less := n.Choose(reached, sum.Sum{}, sum.Number(whole.Of(1)))
		return sum.Sub(other, less)
	}
	return other
}
