package low

import (
	"statute/api"
	"statute/plan"
	"statute/source"
)

// step reads what stands behind the word. It learns the name last: the step may not use it.
func step(r *source.Reader) bool {
	name, ok := r.NewName()
	if !ok {
		return false
	}
	op, ok := operation(r)
	if !ok {
		return false
	}
	node, ok := result(r, op)
	if !ok {
		return false
	}
	if op.IsFlag() {
		r.LearnFlag(name, node)
	} else {
		r.LearnValue(name, node)
	}
	return true
}

// operation reads the word that says what a step does.
func operation(r *source.Reader) (plan.Op, bool) {
	op := plan.Add
	switch r.Peek() {
	case "add":
		op = plan.Add
	case "sub":
		op = plan.Sub
	case "mul":
		op = plan.Mul
	case "flr":
		op = plan.Down
	case "sel":
		op = plan.If
	case "lt":
		op = plan.Less
	case "le":
		op = plan.AtMost
	case "eq":
		op = plan.Equal
	case "and":
		op = plan.And
	case "or":
		op = plan.Or
	case "not":
		op = plan.Not
	default:
		return op, false
	}
	r.Skip()
	return op, true
}

// result reads what an operation takes, and tells its node.
func result(r *source.Reader, op plan.Op) (int, bool) {
	switch op {
	case plan.Mul:
		return product(r)
	case plan.Down:
		return quotient(r)
	case plan.If:
		return choice(r)
	case plan.And, plan.Or:
		return joint(r, op)
	case plan.Not:
		return contrary(r)
	}
	return pair(r, op)
}

// pair reads two arguments.
func pair(r *source.Reader, op plan.Op) (int, bool) {
	a, ok := r.Argument()
	if !ok {
		return 0, false
	}
	b, ok := r.Argument()
	if !ok {
		return 0, false
	}
	return r.Plan.Append(plan.Node{Op: op, A: a, B: b}), true
}

func product(r *source.Reader) (int, bool) {
	k, ok := r.Number(-api.MaxTimes, api.MaxTimes)
	if !ok {
		return 0, false
	}
	a, ok := r.Argument()
	if !ok {
		return 0, false
	}
	return r.Plan.Append(plan.Node{Op: plan.Mul, A: a, K: k}), true
}

func quotient(r *source.Reader) (int, bool) {
	a, ok := r.Argument()
	if !ok {
		return 0, false
	}
	d, ok := r.Number(1, api.MaxParts)
	if !ok {
		return 0, false
	}
	return r.Plan.Append(plan.Node{Op: plan.Down, A: a, K: d}), true
}

func choice(r *source.Reader) (int, bool) {
	a, ok := r.Flag()
	if !ok {
		return 0, false
	}
	b, ok := r.Argument()
	if !ok {
		return 0, false
	}
	c, ok := r.Argument()
	if !ok {
		return 0, false
	}
	return r.Plan.Append(plan.Node{Op: plan.If, A: a, B: b, C: c}), true
}

// joint reads two flags.
func joint(r *source.Reader, op plan.Op) (int, bool) {
	a, ok := r.Flag()
	if !ok {
		return 0, false
	}
	b, ok := r.Flag()
	if !ok {
		return 0, false
	}
	return r.Plan.Append(plan.Node{Op: op, A: a, B: b}), true
}

func contrary(r *source.Reader) (int, bool) {
	a, ok := r.Flag()
	if !ok {
		return 0, false
	}
	return r.Plan.Append(plan.Node{Op: plan.Not, A: a}), true
}
