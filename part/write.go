package part

import (
	"statute/net"
	"statute/sum"
	"statute/whole"
)

// writer writes the net of a part anew. A fact settles only flags about the very sum that it is about, and a node hangs
// only on flags about nodes ahead of it. So a fact is written anew by what other facts say of nodes that are ahead of its
// own: together they say the same as before.
type writer struct {
	old     Part
	part    Part
	facts   []Fact // those of the old part that its spans do not say already
	reached []bool
	values  []sum.Sum
	flags   []net.Flag
	changed bool // whether a flag was settled
}

// write tells false if a fact shows that there is no household.
func (w *writer) write() bool {
	size := len(w.old.Net.Nodes)
	w.part = Part{Net: net.New(w.old.Net.Spans)}
	w.values = make([]sum.Sum, size)
	w.flags = make([]net.Flag, size)
	w.pickFacts()
	w.reach()
	for i := 0; i < size; i++ {
		if w.reached[i] {
			w.writeNode(i)
		}
	}
	for i := 0; i < len(w.facts); i++ {
		s := w.rewritten(w.facts[i].Sum)
		if !w.part.add(s, w.facts[i].Low, w.facts[i].High) {
			return false
		}
	}
	return true
}

func (w *writer) pickFacts() {
	for i := 0; i < len(w.old.Facts); i++ {
		fact := w.old.Facts[i]
		r := w.old.Net.Range(fact.Sum)
		if whole.Compare(r.Low, fact.Low) < 0 || whole.Compare(r.High, fact.High) > 0 {
			w.facts = append(w.facts, fact)
		}
	}
}

// reach marks the nodes on which the facts hang.
func (w *writer) reach() {
	w.reached = make([]bool, len(w.old.Net.Nodes))
	for i := 0; i < len(w.facts); i++ {
		w.reachSum(w.facts[i].Sum)
	}
	for i := len(w.reached) - 1; i >= 0; i-- {
		if !w.reached[i] {
			continue
		}
		node := &w.old.Net.Nodes[i]
		w.reachSum(node.A)
		w.reachSum(node.B)
		if node.Kind == net.Choice || node.Kind == net.Both {
			w.reachFlag(node.F)
		}
		if node.Kind == net.Both {
			w.reachFlag(node.G)
		}
	}
}

func (w *writer) reachSum(s sum.Sum) {
	for i := 0; i < len(s.Terms); i++ {
		w.reached[s.Terms[i].At] = true
	}
}

func (w *writer) reachFlag(f net.Flag) {
	if !f.IsSettled() {
		w.reached[f.At] = true
	}
}

func (w *writer) writeNode(at int) {
	node := &w.old.Net.Nodes[at]
	n := w.part.Net
	a := w.rewritten(node.A)
	switch node.Kind {
	case net.Input:
		w.values[at] = n.Input(node.K)
	case net.Choice:
		b := w.rewritten(node.B)
		f := w.flag(node.F)
		w.values[at] = n.Choose(f, a, b)
	case net.Floor:
		w.values[at] = n.Floor(a, node.D)
	case net.Least:
		w.flags[at] = w.least(node.A, a)
	case net.Both:
		f := w.flag(node.F)
		g := w.flag(node.G)
		w.flags[at] = n.Both(f, g)
	}
}

// least tells whether a sum of the old net, which is now written as another one, is at least 0.
func (w *writer) least(old, now sum.Sum) net.Flag {
	known, holds := w.old.settles(old)
	f := net.Holding(holds)
	if !known {
		f = w.part.Net.AtLeast(now)
	}
	if f.IsSettled() {
		w.changed = true
	}
	return f
}

func (w *writer) flag(f net.Flag) net.Flag {
	if f.IsSettled() {
		return f
	}
	now := w.flags[f.At]
	if f.Not {
		return now.Opposite()
	}
	return now
}

func (w *writer) rewritten(s sum.Sum) sum.Sum {
	now := sum.Number(s.Constant)
	for i := 0; i < len(s.Terms); i++ {
		now = sum.AddTimes(now, s.Terms[i].Times, w.values[s.Terms[i].At])
	}
	return now
}
