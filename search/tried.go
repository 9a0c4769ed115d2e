package search

import "statute/plan"

// areFew tells whether a plan has not more than so many households.
func areFew(p plan.Plan, most int) bool {
	count := 1
	for i := 0; i < len(p.Inputs); i++ {
		count *= p.Inputs[i].Hi - p.Inputs[i].Lo + 1
		// At once, so that the product does not become too great.
		if count > most {
			return false
		}
	}
	return true
}

// tried tells the least household at which the outs of two plans differ, by trying all of them in their order.
func tried(high, low plan.Plan) ([]int, bool) {
	home := make([]int, len(high.Inputs))
	for i := 0; i < len(home); i++ {
		home[i] = high.Inputs[i].Lo
	}
	for {
		if plan.FirstParting(high, low, home) >= 0 {
			return home, true
		}
		if !next(high, home) {
			return nil, false
		}
	}
}

// next makes a household the next greater one; false if it is the greatest.
func next(p plan.Plan, home []int) bool {
	i := len(home) - 1
	for i >= 0 && home[i] >= p.Inputs[i].Hi {
		home[i] = p.Inputs[i].Lo
		i--
	}
	if i < 0 {
		return false
	}
	home[i]++
	return true
}
