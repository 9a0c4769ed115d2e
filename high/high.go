// Package high: reading a text of the high form.
package high

import (
	"statute/api"
	"statute/plan"
	"statute/source"
)

// Read tells the plan of a text, or its error and the place of that.
func Read(s string) (plan.Plan, api.Errno, int) {
	if len(s) > api.MaxText {
		return plan.Plan{}, api.ErrLong, 0
	}
	r := source.New(s)
	right := text(r)
	return r.Result(right)
}

func text(r *source.Reader) bool {
	if !r.Inputs() {
		return false
	}
	if !lets(r) {
		return false
	}
	return outs(r)
}

func lets(r *source.Reader) bool {
	for n := 0; n < api.MaxLets; n++ {
		if !r.Word("let") {
			return true
		}
		name, node, ok := named(r)
		if !ok {
			return false
		}
		r.LearnValue(name, node)
	}
	return true
}

func outs(r *source.Reader) bool {
	for n := 0; n < api.MaxOuts; n++ {
		if n > 0 && r.AtEnd() {
			return true
		}
		if !r.Word("out") {
			return false
		}
		name, node, ok := named(r)
		if !ok {
			return false
		}
		r.LearnOut(name, node)
	}
	return r.AtEnd()
}

// named reads a new name and its expression. It does not learn the name: the expression may not use it.
func named(r *source.Reader) (string, int, bool) {
	name, ok := r.NewName()
	if !ok {
		return "", 0, false
	}
	node, ok := expression(r)
	if !ok {
		return "", 0, false
	}
	return name, node, true
}
