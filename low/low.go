// Package low: reading a text of the low form.
package low

import (
	"statute/api"
	"statute/plan"
	"statute/source"
)

// Read tells the plan of a text, or its error and the place of that.
func Read(s string) (plan.Plan, api.Errno, int) {
	if len(s) > api.MaxText {
		return plan.Plan{}, api.ErrLong, 0
	}
	r := source.New(s)
	right := text(r)
	return r.Result(right)
}

func text(r *source.Reader) bool {
	if !r.Inputs() {
		return false
	}
	if !steps(r) {
		return false
	}
	return outs(r)
}

func steps(r *source.Reader) bool {
	for n := 0; n < api.MaxSteps; n++ {
		if !r.Word("set") {
			return true
		}
		if !step(r) {
			return false
		}
	}
	return true
}

func outs(r *source.Reader) bool {
	for n := 0; n < api.MaxOuts; n++ {
		if n > 0 && r.AtEnd() {
			return true
		}
		if !r.Word("out") {
			return false
		}
		if !out(r) {
			return false
		}
	}
	return r.AtEnd()
}

// out reads what stands behind the word.
func out(r *source.Reader) bool {
	name, ok := r.NewName()
	if !ok {
		return false
	}
	node, ok := r.Argument()
	if !ok {
		return false
	}
	r.LearnOut(name, node)
	return true
}
