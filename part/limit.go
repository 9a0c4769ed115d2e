package part

import (
	"statute/net"
	"statute/sum"
	"statute/whole"
)

// Limited tells the same part with more facts: those about choices among the named nodes that the given values of the
// nodes contradict. False if there are none. They hold whatever is chosen: the greater of two is not less than either.
func (p Part) Limited(named []int, values []whole.Int) (Part, bool) {
	q := p.copied()
	contradicted := false
	for i := 0; i < len(named); i++ {
		limits := p.limits(named[i])
		for j := 0; j < len(limits); j++ {
			value := net.SumValue(limits[j], values)
			if value.Sign() < 0 {
				contradicted = true
				if !q.require(limits[j]) {
					return q, true
				}
			}
		}
	}
	return q, contradicted
}

// limits tells sums that are at least 0 whatever is chosen, if the choice is between sums that differ by so many times
// what is compared with 0, and a constant. If that is above 0 so many times, the first sum is chosen where it is the
// greater one, but for the constant; else, where it is the lesser one.
func (p *Part) limits(at int) []sum.Sum {
	node := &p.Net.Nodes[at]
	if node.Kind != net.Choice || p.Net.Nodes[node.F.At].Kind != net.Least {
		return nil
	}
	compared := p.Net.Nodes[node.F.At].A
	difference := sum.Sub(node.A, node.B)
	if difference.IsNumber() {
		return nil
	}
	times := whole.Div(difference.Terms[0].Times, compared.Terms[0].Times)
	rest := sum.AddTimes(difference, times.Neg(), compared)
	if times.Sign() == 0 || !rest.IsNumber() {
		return nil
	}
	overA := sum.Sub(sum.Single(at), node.A)
	overB := sum.Sub(sum.Single(at), node.B)
	constant := rest.Constant
	if times.Sign() < 0 {
		times = times.Neg()
		constant = constant.Neg()
		overA = sum.Mul(whole.Of(-1), overA)
		overB = sum.Mul(whole.Of(-1), overB)
	}
	// Where the first one is chosen, what is compared is at least 0, and else at most -1.
	return []sum.Sum{overA.Raised(shortfall(whole.Sub(times, constant))), overB.Raised(shortfall(constant))}
}

// shortfall tells by how much a number is below 0.
func shortfall(a whole.Int) whole.Int {
	if a.Sign() < 0 {
		return a.Neg()
	}
	return whole.Int{}
}
