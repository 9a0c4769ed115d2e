package plan

import "statute/api"

// IsBig tells whether a node's bound is above the greatest that is allowed. It ends at the first such node: so every
// bound that another one is made of is small, and 6 bands of a thousand times that still are an int.
func (p *Plan) IsBig() bool {
	bounds := make([]int, len(p.Nodes))
	for i := 0; i < len(p.Nodes); i++ {
		b := p.nodeBound(p.Nodes[i], bounds)
		if b > api.MaxValue {
			return true
		}
		bounds[i] = b
	}
	return false
}

// nodeBound tells the bound of a node, given those ahead of it. A flag has none, which counts as 0.
func (p *Plan) nodeBound(n Node, bounds []int) int {
	a := pick(bounds, n.A)
	b := pick(bounds, n.B)
	switch n.Op {
	case Number:
		return absolute(n.K)
	case Input:
		return p.inputBound(n.K)
	case Add, Sub:
		return a + b
	case Mul:
		return absolute(n.K) * a
	case Min, Max:
		return greater(a, b)
	case If:
		c := pick(bounds, n.C)
		return greater(b, c)
	case Down, Up, Zero, Near:
		return a
	case Tab:
		return bandBound(a, n.Bands)
	}
	return 0
}

func (p *Plan) inputBound(i int) int {
	if i < 0 || i >= len(p.Inputs) {
		return 0
	}
	lo := absolute(p.Inputs[i].Lo)
	hi := absolute(p.Inputs[i].Hi)
	return greater(lo, hi)
}

func bandBound(a int, bands []Band) int {
	sum := 0
	for i := 0; i < len(bands); i++ {
		rate := absolute(bands[i].Rate)
		from := absolute(bands[i].From)
		sum += rate * (a + from)
	}
	return sum
}

func absolute(a int) int {
	if a < 0 {
		return -a
	}
	return a
}
