package part

import (
	"statute/least"
	"statute/net"
	"statute/whole"
)

// Named tells the nodes of which there is a fact, the inputs ahead and in their order.
func (p *Part) Named() []int {
	named := p.named()
	var list []int
	for k := 0; k < len(p.Net.Spans); k++ {
		for i := 0; i < len(named); i++ {
			if named[i] && p.Net.Nodes[i].Kind == net.Input && p.Net.Nodes[i].K == k {
				list = append(list, i)
			}
		}
	}
	for i := 0; i < len(named); i++ {
		if named[i] && p.Net.Nodes[i].Kind != net.Input {
			list = append(list, i)
		}
	}
	return list
}

// Box tells the facts as rows of the nodes of which there is one.
func (p *Part) Box(named []int) least.Box {
	var b least.Box
	place := make([]int, len(p.Net.Nodes))
	for i := 0; i < len(named); i++ {
		node := &p.Net.Nodes[named[i]]
		place[named[i]] = i
		b.Low = append(b.Low, node.Range.Low)
		b.High = append(b.High, node.Range.High)
	}
	for i := 0; i < len(p.Facts); i++ {
		fact := p.Facts[i]
		row := least.Row{Times: make([]whole.Int, len(named)), Low: fact.Low, High: fact.High}
		for j := 0; j < len(fact.Sum.Terms); j++ {
			term := fact.Sum.Terms[j]
			row.Times[place[term.At]] = term.Times
		}
		b.Rows = append(b.Rows, row)
	}
	return b
}
