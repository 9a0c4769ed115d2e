// Package net: what programs come to, as nodes that choose, round or hold, between which there are sums. Whatever can be
// written in several ways is written in one, so that much of what is the same in two programs is the same node.
package net

import (
	"statute/sum"
	"statute/whole"
)

// Kind says what a node is.
type Kind int

const (
	Input  Kind = iota // the household's number K, from 0 on
	Choice             // A if the flag F holds, else B
	Floor              // A by D, rounded down
	Least              // flag: A is at least 0
	Both               // flag: F and G hold
)

// Node takes nodes ahead of it alone. The terms of its sums are numbers of nodes.
type Node struct {
	Kind  Kind
	K     int
	A, B  sum.Sum
	D     whole.Int
	F, G  Flag
	Range Span // of a value
	mark  int
}

// Flag: whether a node that is a flag holds, or does not hold.
type Flag struct {
	At  int // settled: there is no such node
	Not bool
}

const settled = -1

// Holding makes a flag that is settled.
func Holding(holds bool) Flag {
	return Flag{settled, !holds}
}

// IsSettled tells whether a flag is the same for every household.
func (f Flag) IsSettled() bool {
	return f.At == settled
}

// Opposite tells the flag that holds where this one does not.
func (f Flag) Opposite() Flag {
	return Flag{f.At, !f.Not}
}

// Span: the whole numbers from Low to High.
type Span struct {
	Low, High whole.Int
}

// Net: the nodes, and from where to where each input goes.
type Net struct {
	Nodes []Node
	Spans []Span
}

// New makes a net without nodes.
func New(spans []Span) *Net {
	n := &Net{Spans: make([]Span, len(spans))}
	copy(n.Spans, spans)
	return n
}

// Range tells numbers between which a sum stays.
func (n *Net) Range(s sum.Sum) Span {
	r := Span{s.Constant, s.Constant}
	for i := 0; i < len(s.Terms); i++ {
		term := n.scaled(s.Terms[i])
		r.Low = whole.Add(r.Low, term.Low)
		r.High = whole.Add(r.High, term.High)
	}
	return r
}

func (n *Net) scaled(p sum.Term) Span {
	var r Span
	if p.At >= 0 && p.At < len(n.Nodes) {
		r = n.Nodes[p.At].Range
	}
	low := whole.Mul(p.Times, r.Low)
	high := whole.Mul(p.Times, r.High)
	if p.Times.Sign() < 0 {
		return Span{high, low}
	}
	return Span{low, high}
}

// keep tells the number of a node, which is a new one only if none is the same.
func (n *Net) keep(node Node) int {
	node.mark = markOf(node)
	for i := 0; i < len(n.Nodes); i++ {
		if n.Nodes[i].mark == node.mark && isSame(n.Nodes[i], node) {
			return i
		}
	}
	n.Nodes = append(n.Nodes, node)
	return len(n.Nodes) - 1
}

// keepValue tells a node as a sum; a node that stays at one number is that number.
func (n *Net) keepValue(node Node) sum.Sum {
	if whole.Compare(node.Range.Low, node.Range.High) == 0 {
		return sum.Number(node.Range.Low)
	}
	at := n.keep(node)
	return sum.Single(at)
}

func markOf(node Node) int {
	a := node.A.Mark()
	b := node.B.Mark()
	return int(node.Kind) + 5*(node.K+11*(flagMark(node.F)+1009*flagMark(node.G))) + 1013*a + 1019*b
}

func flagMark(f Flag) int {
	if f.Not {
		return 2*f.At + 3
	}
	return 2*f.At + 2
}

func isSame(a, b Node) bool {
	if a.Kind != b.Kind || a.K != b.K || a.F != b.F || a.G != b.G || whole.Compare(a.D, b.D) != 0 {
		return false
	}
	return sum.Same(a.A, b.A) && sum.Same(a.B, b.B)
}
