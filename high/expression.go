package high

import (
	"statute/api"
	"statute/plan"
	"statute/source"
)

// expression reads an expression and tells its node. It and condition call each other only behind a token that was
// read, of which there are no more than api.MaxTokens.
func expression(r *source.Reader) (int, bool) {
	switch r.Peek() {
	case "add":
		return pair(r, plan.Add)
	case "sub":
		return pair(r, plan.Sub)
	case "min":
		return pair(r, plan.Min)
	case "max":
		return pair(r, plan.Max)
	case "mul":
		return product(r)
	case "if":
		return choice(r)
	case "div":
		return quotient(r)
	case "tab":
		return table(r)
	}
	return r.Argument()
}

// pair reads a word and two expressions.
func pair(r *source.Reader, op plan.Op) (int, bool) {
	r.Skip()
	a, ok := expression(r)
	if !ok {
		return 0, false
	}
	b, ok := expression(r)
	if !ok {
		return 0, false
	}
	return r.Plan.Append(plan.Node{Op: op, A: a, B: b}), true
}

func product(r *source.Reader) (int, bool) {
	r.Skip()
	k, ok := r.Number(-api.MaxTimes, api.MaxTimes)
	if !ok {
		return 0, false
	}
	a, ok := expression(r)
	if !ok {
		return 0, false
	}
	return r.Plan.Append(plan.Node{Op: plan.Mul, A: a, K: k}), true
}

func choice(r *source.Reader) (int, bool) {
	r.Skip()
	a, ok := condition(r)
	if !ok {
		return 0, false
	}
	b, ok := expression(r)
	if !ok {
		return 0, false
	}
	c, ok := expression(r)
	if !ok {
		return 0, false
	}
	return r.Plan.Append(plan.Node{Op: plan.If, A: a, B: b, C: c}), true
}

func quotient(r *source.Reader) (int, bool) {
	r.Skip()
	op, ok := rounding(r)
	if !ok {
		return 0, false
	}
	a, ok := expression(r)
	if !ok {
		return 0, false
	}
	d, ok := r.Number(1, api.MaxParts)
	if !ok {
		return 0, false
	}
	return r.Plan.Append(plan.Node{Op: op, A: a, K: d}), true
}

func rounding(r *source.Reader) (plan.Op, bool) {
	op := plan.Down
	switch r.Peek() {
	case "down":
		op = plan.Down
	case "up":
		op = plan.Up
	case "zero":
		op = plan.Zero
	case "near":
		op = plan.Near
	default:
		return op, false
	}
	r.Skip()
	return op, true
}

func table(r *source.Reader) (int, bool) {
	r.Skip()
	a, ok := expression(r)
	if !ok {
		return 0, false
	}
	n, ok := r.Number(1, api.MaxBands)
	if !ok {
		return 0, false
	}
	var bands []plan.Band
	least := -api.MaxNumber
	for i := 0; i < n; i++ {
		band, ok := oneBand(r, least)
		if !ok {
			return 0, false
		}
		bands = append(bands, band)
		least = band.From + 1
	}
	return r.Plan.Append(plan.Node{Op: plan.Tab, A: a, Bands: bands}), true
}

// oneBand reads a band that begins at the given number or above it.
func oneBand(r *source.Reader, least int) (plan.Band, bool) {
	from, ok := r.Number(least, api.MaxNumber)
	if !ok {
		return plan.Band{}, false
	}
	rate, ok := r.Number(-api.MaxTimes, api.MaxTimes)
	if !ok {
		return plan.Band{}, false
	}
	return plan.Band{From: from, Rate: rate}, true
}
