package search

import (
	"strings"

	"statute/plan"
)

// translated tells a text of the low form that says the same as a plan of the high form, in one of many ways.
func (m *maker) translated(p plan.Plan) string {
	m.low = nil
	m.steps = 0
	for i, s := range p.Inputs {
		m.low = append(m.low, "in", p.InputNames[i], num(s.Lo), num(s.Hi))
	}
	args := make([]string, len(p.Nodes))
	for i, n := range p.Nodes {
		args[i] = m.translatedNode(p, n, args)
	}
	for i, at := range p.Outs {
		m.low = append(m.low, "out", p.OutNames[i], args[at])
	}
	return strings.Join(m.low, " ")
}

func (m *maker) translatedNode(p plan.Plan, n plan.Node, args []string) string {
	a, b, c := args[n.A], args[n.B], args[n.C]
	switch n.Op {
	case plan.Number:
		return num(n.K)
	case plan.Input:
		return p.InputNames[n.K]
	case plan.Add:
		return m.step("add", b, a)
	case plan.Sub:
		return m.step("sub", a, b)
	case plan.Mul:
		return m.step("mul", num(n.K), a)
	case plan.Min:
		return m.lesser(a, b, true)
	case plan.Max:
		return m.lesser(a, b, false)
	case plan.If:
		return m.step("sel", a, b, c)
	case plan.Down:
		return m.step("flr", a, num(n.K))
	case plan.Up:
		return m.up(a, n.K)
	case plan.Zero:
		return m.zero(a, n.K)
	case plan.Near:
		return m.step("flr", m.step("add", a, num(n.K/2)), num(n.K))
	case plan.Tab:
		var from, rate []int
		for _, band := range n.Bands {
			from = append(from, band.From)
			rate = append(rate, band.Rate)
		}
		return m.tableSteps(a, from, rate)
	case plan.Not:
		return m.step("not", a)
	}
	return m.step(map[plan.Op]string{plan.Less: "lt", plan.AtMost: "le", plan.Equal: "eq", plan.And: "and", plan.Or: "or"}[n.Op], a, b)
}
