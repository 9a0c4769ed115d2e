// Package plan: a program as a list of nodes. Each node takes nodes ahead of it alone, so one walk from the front
// settles all of them, however deep the text was nested.
package plan

// Op says what a node comes to.
type Op int

const (
	Number Op = iota // K
	Input            // the household's number K, from 0 on
	Add              // A and B together
	Sub              // A less B
	Mul              // K times A
	Min              // the lesser of A and B
	Max              // the greater of A and B
	If               // B if the flag A holds, else C
	Down             // A by K, rounded down
	Up               // A by K, rounded up
	Zero             // A by K, rounded towards 0
	Near             // A by K, rounded to the nearest, halves up
	Tab              // the bands' rates on A
	Less             // flag: A is less than B
	AtMost           // flag: A is not greater than B
	Equal            // flag: A is B
	And              // flag: both flags A and B hold
	Or               // flag: one of the flags A and B holds
	Not              // flag: the flag A does not hold
)

// IsFlag tells whether such a node holds or not, rather than having a value.
func (op Op) IsFlag() bool {
	switch op {
	case Less, AtMost, Equal, And, Or, Not:
		return true
	}
	return false
}

// Node: one operation. A, B and C are the numbers of nodes ahead of it; K is a plain number.
type Node struct {
	Op      Op
	A, B, C int
	K       int
	Bands   []Band
}

// Band: what lies above From, up to the next band's From, counts Rate times.
type Band struct {
	From, Rate int
}

// Span: the numbers that an input may have.
type Span struct {
	Lo, Hi int
}

// Plan: a whole program. Outs are the numbers of the nodes that it tells.
type Plan struct {
	Inputs     []Span
	Nodes      []Node
	Outs       []int
	InputNames []string
	OutNames   []string
}

// Append adds a node and tells its number.
func (p *Plan) Append(n Node) int {
	p.Nodes = append(p.Nodes, n)
	return len(p.Nodes) - 1
}

// AppendInput adds an input and its node, and tells the number of that node.
func (p *Plan) AppendInput(s Span) int {
	n := Node{Op: Input, K: len(p.Inputs)}
	p.Inputs = append(p.Inputs, s)
	return p.Append(n)
}

// pick answers 0 at a place that the list has not, so that no node can lead a walk outside.
func pick(list []int, at int) int {
	if at < 0 || at >= len(list) {
		return 0
	}
	return list[at]
}

func lesser(a, b int) int {
	if a < b {
		return a
	}
	return b
}

func greater(a, b int) int {
	if a > b {
		return a
	}
	return b
}
