package net

import (
	"statute/plan"
	"statute/sum"
	"statute/whole"
)

// Program: what each node of a plan is in a net, a value or a flag.
type Program struct {
	Values []sum.Sum
	Flags  []Flag
}

// SpansOf tells from where to where the inputs of a plan go.
func SpansOf(p plan.Plan) []Span {
	spans := make([]Span, len(p.Inputs))
	for i := 0; i < len(p.Inputs); i++ {
		spans[i] = Span{whole.Of(p.Inputs[i].Lo), whole.Of(p.Inputs[i].Hi)}
	}
	return spans
}

// Program writes a plan into the net. Where known has a sum for a node of the plan, the node is that sum.
func (n *Net) Program(p plan.Plan, known []Known) Program {
	told := Program{make([]sum.Sum, len(p.Nodes)), make([]Flag, len(p.Nodes))}
	for i := 0; i < len(p.Nodes); i++ {
		if i < len(known) && known[i].Is {
			told.Values[i] = known[i].Sum
		} else if p.Nodes[i].Op.IsFlag() {
			told.Flags[i] = n.flagOf(p.Nodes[i], told)
		} else {
			told.Values[i] = n.valueOf(p.Nodes[i], told)
		}
	}
	return told
}

// Known: the sum that a node of a plan is already known to be.
type Known struct {
	Is  bool
	Sum sum.Sum
}

func (t Program) value(at int) sum.Sum {
	if at < 0 || at >= len(t.Values) {
		return sum.Sum{}
	}
	return t.Values[at]
}

func (t Program) flag(at int) Flag {
	if at < 0 || at >= len(t.Flags) {
		return Holding(false)
	}
	return t.Flags[at]
}

func (n *Net) valueOf(node plan.Node, told Program) sum.Sum {
	a := told.value(node.A)
	b := told.value(node.B)
	switch node.Op {
	case plan.Number:
		return sum.Number(whole.Of(node.K))
	case plan.Input:
		return n.Input(node.K)
	case plan.Add:
		return sum.Add(a, b)
	case plan.Sub:
		return sum.Sub(a, b)
	case plan.Mul:
		return sum.Mul(whole.Of(node.K), a)
	case plan.Min:
		f := n.AtLeast(sum.Sub(b, a))
		return n.Choose(f, a, b)
	case plan.Max:
		f := n.AtLeast(sum.Sub(a, b))
		return n.Choose(f, a, b)
	case plan.If:
		return n.Choose(told.flag(node.A), b, told.value(node.C))
	case plan.Down, plan.Up, plan.Zero, plan.Near:
		return n.quotient(node.Op, a, node.K)
	case plan.Tab:
		return n.table(a, node.Bands)
	}
	return sum.Sum{}
}

func (n *Net) flagOf(node plan.Node, told Program) Flag {
	difference := sum.Sub(told.value(node.B), told.value(node.A))
	switch node.Op {
	case plan.Less:
		return n.AtLeast(difference.Raised(whole.Of(-1)))
	case plan.AtMost:
		return n.AtLeast(difference)
	case plan.Equal:
		return n.Zero(difference)
	case plan.And:
		return n.Both(told.flag(node.A), told.flag(node.B))
	case plan.Or:
		return n.Either(told.flag(node.A), told.flag(node.B))
	case plan.Not:
		return told.flag(node.A).Opposite()
	}
	return Holding(false)
}

func (n *Net) quotient(op plan.Op, a sum.Sum, d int) sum.Sum {
	if d < 1 {
		return sum.Sum{}
	}
	parts := whole.Of(d)
	switch op {
	case plan.Up:
		return n.Floor(a.Raised(whole.Of(d-1)), parts)
	case plan.Zero:
		down := n.Floor(a, parts)
		up := n.Floor(a.Raised(whole.Of(d-1)), parts)
		f := n.AtLeast(a)
		return n.Choose(f, down, up)
	case plan.Near:
		// a/d + 1/2, with both doubled to stay whole.
		doubled := sum.Add(a, a)
		return n.Floor(doubled.Raised(parts), whole.Of(2*d))
	}
	return n.Floor(a, parts)
}

// table tells the rates on a, as a choice among the bands' sums: the last band that a reaches is the one.
func (n *Net) table(a sum.Sum, bands []plan.Band) sum.Sum {
	var told sum.Sum
	var below whole.Int
	for i := 0; i < len(bands); i++ {
		rate := whole.Of(bands[i].Rate)
		above := a.Raised(whole.Of(-bands[i].From))
		reached := n.AtLeast(above)
		told = n.Choose(reached, sum.Mul(rate, above).Raised(below), told)
		if i+1 < len(bands) {
			below = whole.Add(below, whole.Mul(rate, whole.Of(bands[i+1].From-bands[i].From)))
		}
	}
	return told
}
