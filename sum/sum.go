// Package sum: sums of terms, each of them counted a whole number of times, beside a constant. What a term stands for is
// settled elsewhere; here it has a number.
package sum

import "statute/whole"

// Term: what has the number At, so many times.
type Term struct {
	At    int
	Times whole.Int
}

// Sum: a constant and terms. It is never changed once it is made, so that its list may be shared.
type Sum struct {
	Constant whole.Int
	Terms    []Term // in the order of their numbers, each of which comes once; none counts 0 times
}

// Number makes a sum without terms.
func Number(k whole.Int) Sum {
	return Sum{Constant: k}
}

// Single makes a sum of one term, once.
func Single(at int) Sum {
	return Sum{Terms: []Term{{at, whole.Of(1)}}}
}

// IsNumber tells whether a sum has no terms.
func (s Sum) IsNumber() bool {
	return len(s.Terms) == 0
}

// Raised tells a sum with more as its constant.
func (s Sum) Raised(by whole.Int) Sum {
	return Sum{whole.Add(s.Constant, by), s.Terms}
}

// Add tells both together.
func Add(a, b Sum) Sum {
	return AddTimes(a, whole.Of(1), b)
}

// Sub tells a less b.
func Sub(a, b Sum) Sum {
	return AddTimes(a, whole.Of(-1), b)
}

// AddTimes tells a and so many times b together.
func AddTimes(a Sum, times whole.Int, b Sum) Sum {
	if times.Sign() == 0 {
		return a
	}
	terms := make([]Term, 0, len(a.Terms)+len(b.Terms))
	i := 0
	j := 0
	for i < len(a.Terms) || j < len(b.Terms) {
		if j >= len(b.Terms) || i < len(a.Terms) && a.Terms[i].At < b.Terms[j].At {
			terms = append(terms, a.Terms[i])
			i++
			continue
		}
		more := Term{b.Terms[j].At, whole.Mul(times, b.Terms[j].Times)}
		if i < len(a.Terms) && a.Terms[i].At == more.At {
			more.Times = whole.Add(more.Times, a.Terms[i].Times)
			i++
		}
		if more.Times.Sign() != 0 {
			terms = append(terms, more)
		}
		j++
	}
	return Sum{whole.Add(a.Constant, whole.Mul(times, b.Constant)), terms}
}

// Mul tells so many times a sum.
func Mul(times whole.Int, s Sum) Sum {
	return AddTimes(Sum{}, times, s)
}

// Same tells whether two sums are written the same way.
func Same(a, b Sum) bool {
	return whole.Compare(a.Constant, b.Constant) == 0 && SameTerms(a, b)
}

// SameTerms tells whether two sums are written the same way but for their constants.
func SameTerms(a, b Sum) bool {
	if len(a.Terms) != len(b.Terms) {
		return false
	}
	for i := 0; i < len(a.Terms); i++ {
		if a.Terms[i].At != b.Terms[i].At || whole.Compare(a.Terms[i].Times, b.Terms[i].Times) != 0 {
			return false
		}
	}
	return true
}

// Divisor tells the greatest divisor that the terms' numbers of times have in common; 0 if there is no term.
func (s Sum) Divisor() whole.Int {
	var divisor whole.Int
	for i := 0; i < len(s.Terms); i++ {
		divisor = whole.Gcd(divisor, s.Terms[i].Times)
	}
	return divisor
}

// Sign tells the sign of the first term; of a number, that of the number.
func (s Sum) Sign() int {
	if len(s.Terms) == 0 {
		return s.Constant.Sign()
	}
	return s.Terms[0].Times.Sign()
}

// Divided tells a sum by a divisor of its terms; the constant is rounded down.
func (s Sum) Divided(by whole.Int) Sum {
	terms := make([]Term, len(s.Terms))
	for i := 0; i < len(s.Terms); i++ {
		terms[i] = Term{s.Terms[i].At, whole.Div(s.Terms[i].Times, by)}
	}
	return Sum{whole.Div(s.Constant, by), terms}
}

const marks = 1000003

// Mark tells a number that is the same for sums that are written the same way, and mostly another one for others.
func (s Sum) Mark() int {
	mark := markOf(s.Constant)
	for i := 0; i < len(s.Terms); i++ {
		mark = (31*mark + s.Terms[i].At + 7) % marks
		mark = (31*mark + markOf(s.Terms[i].Times)) % marks
	}
	return mark
}

func markOf(k whole.Int) int {
	v, _ := k.Small()
	mark := v % marks
	if mark < 0 {
		return mark + marks
	}
	return mark
}
