package net

import (
	"statute/sum"
	"statute/whole"
)

// AtLeast tells the flag that holds where a sum is at least 0. Its node is written with factors that have no divisor in
// common, and the first of them above 0.
func (n *Net) AtLeast(a sum.Sum) Flag {
	r := n.Range(a)
	if r.Low.Sign() >= 0 {
		return Holding(true)
	}
	if r.High.Sign() < 0 {
		return Holding(false)
	}
	divisor := a.Divisor()
	if divisor.Sign() == 0 {
		return Holding(a.Constant.Sign() >= 0)
	}
	a = a.Divided(divisor)
	if a.Sign() > 0 {
		return Flag{At: n.keep(Node{Kind: Least, A: a})}
	}
	return Flag{n.keep(Node{Kind: Least, A: Contrary(a)}), true}
}

// Zero tells the flag that holds where a sum is 0.
func (n *Net) Zero(a sum.Sum) Flag {
	above := n.AtLeast(a)
	below := n.AtLeast(sum.Mul(whole.Of(-1), a))
	return n.Both(above, below)
}

// Both tells the flag that holds where two do.
func (n *Net) Both(f, g Flag) Flag {
	if g.At < f.At {
		return n.Both(g, f)
	}
	// A settled flag has the least number.
	if f.IsSettled() {
		if f.Not {
			return f
		}
		return g
	}
	if f.At == g.At {
		if f.Not == g.Not {
			return f
		}
		return Holding(false)
	}
	return Flag{At: n.keep(Node{Kind: Both, F: f, G: g})}
}

// Either tells the flag that holds where one of two does.
func (n *Net) Either(f, g Flag) Flag {
	neither := n.Both(f.Opposite(), g.Opposite())
	return neither.Opposite()
}
