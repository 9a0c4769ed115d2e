package net

import (
	"statute/sum"
	"statute/whole"
)

// Input tells an input of the household.
func (n *Net) Input(k int) sum.Sum {
	if k < 0 || k >= len(n.Spans) {
		return sum.Sum{}
	}
	return n.keepValue(Node{Kind: Input, K: k, Range: n.Spans[k]})
}

// Choose tells a if the flag holds, else b. A divisor and a sign that both have in common, and the constant of b, stand
// outside of the node.
func (n *Net) Choose(f Flag, a, b sum.Sum) sum.Sum {
	if f.IsSettled() {
		if f.Not {
			return b
		}
		return a
	}
	if sum.Same(a, b) {
		return a
	}
	if f.Not {
		return n.Choose(f.Opposite(), b, a)
	}
	outside := b.Constant
	a = a.Raised(outside.Neg())
	b = b.Raised(outside.Neg())
	times := shared(a, b)
	a = a.Divided(times)
	b = b.Divided(times)
	inA := n.rangeBeside(a, f)
	inB := n.rangeBeside(b, f.Opposite())
	chosen := n.keepValue(Node{Kind: Choice, F: f, A: a, B: b, Range: hull(inA, inB)})
	return sum.AddTimes(sum.Number(outside), times, chosen)
}

// shared tells the greatest divisor of all numbers in two sums, with the sign by which the first of them is above 0.
func shared(a, b sum.Sum) whole.Int {
	divisor := whole.Gcd(a.Divisor(), a.Constant)
	divisor = whole.Gcd(divisor, b.Divisor())
	divisor = whole.Gcd(divisor, b.Constant)
	sign := b.Sign()
	if sign == 0 {
		sign = a.Sign()
	}
	if sign < 0 {
		return divisor.Neg()
	}
	return divisor
}

// rangeBeside tells numbers between which a sum stays where a flag holds. It sees what the flag says if that is about
// the same terms: many choices are of what was compared, as the lesser of two is.
func (n *Net) rangeBeside(s sum.Sum, f Flag) Span {
	r := n.Range(s)
	if n.Nodes[f.At].Kind != Least || s.IsNumber() {
		return r
	}
	limit := n.Nodes[f.At].A
	if f.Not {
		limit = Contrary(limit)
	}
	// The sum may be so many times what is at least 0, and a constant.
	times := whole.Div(s.Terms[0].Times, limit.Terms[0].Times)
	rest := sum.AddTimes(s, times.Neg(), limit)
	if !rest.IsNumber() {
		return r
	}
	if times.Sign() > 0 && whole.Compare(rest.Constant, r.Low) > 0 {
		r.Low = rest.Constant
	}
	if times.Sign() < 0 && whole.Compare(rest.Constant, r.High) < 0 {
		r.High = rest.Constant
	}
	return r
}

// Contrary tells the sum that is at least 0 just where another one is not: its opposite, less 1.
func Contrary(s sum.Sum) sum.Sum {
	opposite := sum.Mul(whole.Of(-1), s)
	return opposite.Raised(whole.Of(-1))
}

func hull(a, b Span) Span {
	if whole.Compare(b.Low, a.Low) < 0 {
		a.Low = b.Low
	}
	if whole.Compare(b.High, a.High) > 0 {
		a.High = b.High
	}
	return a
}
