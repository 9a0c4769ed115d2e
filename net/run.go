package net

import (
	"statute/sum"
	"statute/whole"
)

// Run tells what each node comes to for a household; a flag is 1 if it holds, else 0.
func (n *Net) Run(home []whole.Int) []whole.Int {
	values := make([]whole.Int, len(n.Nodes))
	for i := 0; i < len(n.Nodes); i++ {
		values[i] = n.nodeValue(i, values, home)
	}
	return values
}

func (n *Net) nodeValue(at int, values []whole.Int, home []whole.Int) whole.Int {
	node := &n.Nodes[at]
	switch node.Kind {
	case Input:
		if node.K < 0 || node.K >= len(home) {
			return whole.Int{}
		}
		return home[node.K]
	case Choice:
		if holds(node.F, values) {
			return SumValue(node.A, values)
		}
		return SumValue(node.B, values)
	case Floor:
		return whole.Div(SumValue(node.A, values), node.D)
	case Least:
		value := SumValue(node.A, values)
		return flagValue(value.Sign() >= 0)
	}
	return flagValue(holds(node.F, values) && holds(node.G, values))
}

func flagValue(holds bool) whole.Int {
	if holds {
		return whole.Of(1)
	}
	return whole.Int{}
}

func holds(f Flag, values []whole.Int) bool {
	if f.At < 0 || f.At >= len(values) {
		return !f.Not
	}
	return (values[f.At].Sign() != 0) != f.Not
}

// SumValue tells what a sum comes to, given the values of the nodes.
func SumValue(s sum.Sum, values []whole.Int) whole.Int {
	total := s.Constant
	for i := 0; i < len(s.Terms); i++ {
		at := s.Terms[i].At
		if at >= 0 && at < len(values) {
			total = whole.Add(total, whole.Mul(s.Terms[i].Times, values[at]))
		}
	}
	return total
}
