package high

import (
	"statute/plan"
	"statute/source"
)

// condition reads a condition and tells its node.
func condition(r *source.Reader) (int, bool) {
	switch r.Peek() {
	case "lt":
		return pair(r, plan.Less)
	case "le":
		return pair(r, plan.AtMost)
	case "eq":
		return pair(r, plan.Equal)
	case "and":
		return joint(r, plan.And)
	case "or":
		return joint(r, plan.Or)
	case "not":
		return contrary(r)
	}
	return 0, false
}

// joint reads a word and two conditions.
func joint(r *source.Reader, op plan.Op) (int, bool) {
	r.Skip()
	a, ok := condition(r)
	if !ok {
		return 0, false
	}
	b, ok := condition(r)
	if !ok {
		return 0, false
	}
	return r.Plan.Append(plan.Node{Op: op, A: a, B: b}), true
}

func contrary(r *source.Reader) (int, bool) {
	r.Skip()
	a, ok := condition(r)
	if !ok {
		return 0, false
	}
	return r.Plan.Append(plan.Node{Op: plan.Not, A: a}), true
}
