package plan

// IsHome tells whether a list of numbers is a household of the program.
func (p *Plan) IsHome(home []int) bool {
	if len(home) != len(p.Inputs) {
		return false
	}
	for i := 0; i < len(home); i++ {
		if home[i] < p.Inputs[i].Lo || home[i] > p.Inputs[i].Hi {
			return false
		}
	}
	return true
}

// Run tells the values of the outs for a household. No sum in it overflows if the program is not big.
func (p *Plan) Run(home []int) []int {
	values := make([]int, len(p.Nodes))
	for i := 0; i < len(p.Nodes); i++ {
		v := nodeValue(p.Nodes[i], values, home)
		values[i] = v
	}
	told := make([]int, len(p.Outs))
	for i := 0; i < len(p.Outs); i++ {
		v := pick(values, p.Outs[i])
		told[i] = v
	}
	return told
}

// nodeValue tells what a node comes to, given the values ahead of it; a flag is 1 if it holds, else 0.
func nodeValue(n Node, values []int, home []int) int {
	a := pick(values, n.A)
	b := pick(values, n.B)
	switch n.Op {
	case Number:
		return n.K
	case Input:
		return pick(home, n.K)
	case Add:
		return a + b
	case Sub:
		return a - b
	case Mul:
		return n.K * a
	case Min:
		return lesser(a, b)
	case Max:
		return greater(a, b)
	case If:
		if a != 0 {
			return b
		}
		return pick(values, n.C)
	case Down, Up, Zero, Near:
		return quotient(n.Op, a, n.K)
	case Tab:
		return bandSum(a, n.Bands)
	}
	if holds(n.Op, a, b) {
		return 1
	}
	return 0
}

func holds(op Op, a, b int) bool {
	switch op {
	case Less:
		return a < b
	case AtMost:
		return a <= b
	case Equal:
		return a == b
	case And:
		return a != 0 && b != 0
	case Or:
		return a != 0 || b != 0
	case Not:
		return a == 0
	}
	return false
}

func quotient(op Op, a, d int) int {
	switch op {
	case Up:
		return -floor(-a, d)
	case Zero:
		if a > 0 {
			return floor(a, d)
		}
		return -floor(-a, d)
	case Near:
		// a/d + 1/2, with both doubled to stay whole.
		return floor(2*a+d, 2*d)
	}
	return floor(a, d)
}

// floor tells the greatest whole number that is at most a/d. A divisor below 1 stands in no text.
func floor(a, d int) int {
	if d < 1 {
		return 0
	}
	q := a / d
	if a%d < 0 {
		q--
	}
	return q
}

func bandSum(a int, bands []Band) int {
	sum := 0
	for i := 0; i < len(bands); i++ {
		top := a
		if i+1 < len(bands) {
			top = lesser(a, bands[i+1].From)
		}
		if top > bands[i].From {
			sum += bands[i].Rate * (top - bands[i].From)
		}
	}
	return sum
}
