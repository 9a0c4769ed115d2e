package part

import (
	"statute/net"
	"statute/sum"
	"statute/whole"
)

// passes: what one pass settles may settle more in the next. Whatever is left then is settled later on.
const passes = 8

// Simplified tells the same part by a net in which everything that its facts settle is settled, and in which nothing
// stands that the facts do not hang on; false if there is no household in it.
func (p Part) Simplified() (Part, bool) {
	for i := 0; i < passes; i++ {
		narrower, changed, ok := p.narrowed()
		if !ok {
			return Part{}, false
		}
		w := writer{old: narrower, changed: changed}
		if !w.write() {
			return Part{}, false
		}
		p = w.part
		if !w.changed {
			return p, true
		}
	}
	return p, true
}

// narrowed tells the same part with narrower spans, as far as each fact alone tells. Beside that: whether any span was
// changed, and whether none is empty.
func (p Part) narrowed() (Part, bool, bool) {
	n := net.New(p.Net.Spans)
	n.Nodes = make([]net.Node, len(p.Net.Nodes))
	copy(n.Nodes, p.Net.Nodes)
	changed := false
	for i := 0; i < len(p.Facts); i++ {
		more, ok := narrow(n, p.Facts[i])
		if !ok {
			return Part{}, false, false
		}
		changed = changed || more
	}
	return Part{n, p.Facts}, changed, true
}

// narrow narrows the spans of the inputs by a fact. It tells whether any was changed, and whether the fact can hold.
func narrow(n *net.Net, fact Fact) (bool, bool) {
	r := n.Range(fact.Sum)
	changed := false
	for i := 0; i < len(fact.Sum.Terms); i++ {
		term := fact.Sum.Terms[i]
		node := &n.Nodes[term.At]
		if node.Kind != net.Input {
			continue
		}
		alone := n.Range(sum.Sum{Terms: fact.Sum.Terms[i : i+1]})
		// What the fact leaves for this term, where the others do their best.
		from := whole.Add(whole.Sub(fact.Low, r.High), alone.High)
		to := whole.Add(whole.Sub(fact.High, r.Low), alone.Low)
		span := net.Span{Low: roundedUp(from, term.Times), High: whole.Div(to, term.Times)}
		if term.Times.Sign() < 0 {
			span = net.Span{Low: roundedUp(to, term.Times), High: whole.Div(from, term.Times)}
		}
		if whole.Compare(span.Low, node.Range.Low) > 0 {
			node.Range.Low = span.Low
			changed = true
		}
		if whole.Compare(span.High, node.Range.High) < 0 {
			node.Range.High = span.High
			changed = true
		}
		n.Spans[node.K] = node.Range
		if whole.Compare(node.Range.Low, node.Range.High) > 0 {
			return changed, false
		}
	}
	return changed, whole.Compare(r.High, fact.Low) >= 0 && whole.Compare(r.Low, fact.High) <= 0
}

func roundedUp(a, by whole.Int) whole.Int {
	opposite := whole.Div(a.Neg(), by)
	return opposite.Neg()
}
