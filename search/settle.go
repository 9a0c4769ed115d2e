package search

import (
	"statute/least"
	"statute/net"
	"statute/solve"
	"statute/whole"
)

// settle makes a claim sure in whose part nothing is open. (Of a sure claim there is nothing to settle: its household is
// in the part, and the plans differ there.)
func (s *search) settle(c claim) {
	if c.sure {
		return
	}
	inputs := 0
	for inputs < len(c.named) && c.part.Net.Nodes[c.named[inputs]].Kind == net.Input {
		inputs++
	}
	zero, above := sumsOf(c.part.Box(c.named))
	point, ok := solve.Point(len(c.named), zero, above, inputs)
	if ok {
		s.heap.push(claim{c.part, c.named, point, homeOf(c.part, c.named, point), true})
	}
}

// sumsOf tells the ranges and rows of a box as sums that are 0, and others that are at least 0.
func sumsOf(b least.Box) ([][]whole.Int, [][]whole.Int) {
	var zero, above [][]whole.Int
	for i := 0; i < len(b.Low); i++ {
		times := make([]whole.Int, len(b.Low))
		times[i] = whole.Of(1)
		above = append(above, sumOf(times, b.Low[i]))
		above = append(above, opposite(sumOf(times, b.High[i])))
	}
	for i := 0; i < len(b.Rows); i++ {
		row := b.Rows[i]
		if whole.Compare(row.Low, row.High) == 0 {
			zero = append(zero, sumOf(row.Times, row.Low))
			continue
		}
		above = append(above, sumOf(row.Times, row.Low))
		above = append(above, opposite(sumOf(row.Times, row.High)))
	}
	return zero, above
}

// sumOf tells by how much a row's sum is above a number.
func sumOf(times []whole.Int, from whole.Int) []whole.Int {
	list := make([]whole.Int, len(times)+1)
	list[0] = from.Neg()
	copy(list[1:], times)
	return list
}

func opposite(sum []whole.Int) []whole.Int {
	list := make([]whole.Int, len(sum))
	for i := 0; i < len(sum); i++ {
		list[i] = sum[i].Neg()
	}
	return list
}
