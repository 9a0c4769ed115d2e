// Package part: a part of the households, those at which some facts hold, and what programs come to there.
package part

import (
	"statute/net"
	"statute/sum"
	"statute/whole"
)

// Fact: a sum, without a constant, is from Low to High. Its factors have no divisor in common, and the first is above 0.
type Fact struct {
	Sum       sum.Sum
	Low, High whole.Int
}

// Part: the households whose numbers are in the spans of the net, and for which the facts hold. Within it, each node of
// the net comes to what it came to in the net of which the part was made.
type Part struct {
	Net   *net.Net
	Facts []Fact
}

// New makes the part of all households of a net.
func New(n *net.Net) Part {
	return Part{Net: n}
}

// With tells the part of a part at which a sum is at least 0; false if there is no household in it.
func (p Part) With(s sum.Sum) (Part, bool) {
	q := p.copied()
	ok := q.require(s)
	return q, ok
}

func (p Part) copied() Part {
	facts := make([]Fact, len(p.Facts), len(p.Facts)+2)
	copy(facts, p.Facts)
	return Part{p.Net, facts}
}

// require adds the fact that a sum is at least 0.
func (p *Part) require(s sum.Sum) bool {
	r := p.Net.Range(s)
	return p.add(s, whole.Int{}, r.High)
}

// add adds the fact that a sum is from low to high; false if that can't be.
func (p *Part) add(s sum.Sum, low, high whole.Int) bool {
	divisor := s.Divisor()
	if divisor.Sign() == 0 {
		return whole.Compare(low, s.Constant) <= 0 && whole.Compare(s.Constant, high) <= 0
	}
	low = whole.Sub(low, s.Constant)
	high = whole.Sub(high, s.Constant)
	if s.Sign() < 0 {
		divisor = divisor.Neg()
		opposite := low.Neg()
		low = high.Neg()
		high = opposite
	}
	size := divisor.Abs()
	low = whole.Div(low.Neg(), size).Neg()
	high = whole.Div(high, size)
	s.Constant = whole.Int{}
	return p.tighten(Fact{s.Divided(divisor), low, high})
}

// tighten adds a fact, or narrows the one about the same sum.
func (p *Part) tighten(f Fact) bool {
	at := p.find(f.Sum)
	if at == len(p.Facts) {
		p.Facts = append(p.Facts, f)
		return whole.Compare(f.Low, f.High) <= 0
	}
	if whole.Compare(f.Low, p.Facts[at].Low) > 0 {
		p.Facts[at].Low = f.Low
	}
	if whole.Compare(f.High, p.Facts[at].High) < 0 {
		p.Facts[at].High = f.High
	}
	return whole.Compare(p.Facts[at].Low, p.Facts[at].High) <= 0
}

// find tells which fact is about a sum, but for its constant, or how many facts there are if none is.
func (p *Part) find(s sum.Sum) int {
	i := 0
	for i < len(p.Facts) && !sum.SameTerms(p.Facts[i].Sum, s) {
		i++
	}
	return i
}

// settles tells whether a fact settles if a sum, written as those of facts are, is at least 0; and if it is.
func (p *Part) settles(s sum.Sum) (bool, bool) {
	at := p.find(s)
	if at == len(p.Facts) {
		return false, false
	}
	low := whole.Add(p.Facts[at].Low, s.Constant)
	high := whole.Add(p.Facts[at].High, s.Constant)
	if low.Sign() >= 0 {
		return true, true
	}
	return high.Sign() < 0, false
}
