package part

import (
	"math/rand"
	"testing"

	"statute/least"
	"statute/net"
	"statute/plan"
	"statute/sum"
	"statute/whole"
)

func of(v int) whole.Int { return whole.Of(v) }

// drawn makes a plan of so many nodes, each of which takes nodes ahead of it.
func drawn(r *rand.Rand, size int) plan.Plan {
	var p plan.Plan
	var values, flags []int
	for range 1 + r.Intn(3) {
		lo := r.Intn(9) - 6
		values = append(values, p.AppendInput(plan.Span{Lo: lo, Hi: lo + r.Intn(7)}))
	}
	ops := []plan.Op{plan.Add, plan.Sub, plan.Min, plan.Max, plan.Down, plan.Near, plan.Mul, plan.Number, plan.Less, plan.AtMost, plan.Equal, plan.And, plan.Or, plan.Not, plan.If, plan.If, plan.If}
	for range size {
		n := plan.Node{Op: ops[r.Intn(len(ops))], A: values[r.Intn(len(values))], B: values[r.Intn(len(values))], K: r.Intn(9) - 4}
		switch n.Op {
		case plan.And, plan.Or, plan.Not, plan.If:
			if len(flags) == 0 {
				continue
			}
			n.A = flags[r.Intn(len(flags))]
			if n.Op == plan.If {
				n.C = values[r.Intn(len(values))]
			} else {
				n.B = flags[r.Intn(len(flags))]
			}
		case plan.Down, plan.Near:
			n.K = 1 + r.Intn(5)
		}
		at := p.Append(n)
		if n.Op.IsFlag() {
			flags = append(flags, at)
		} else {
			values = append(values, at)
		}
	}
	return p
}

// homes tells all households of a plan.
func homes(p plan.Plan) [][]whole.Int {
	list := [][]whole.Int{nil}
	for _, s := range p.Inputs {
		var longer [][]whole.Int
		for _, head := range list {
			for v := s.Lo; v <= s.Hi; v++ {
				longer = append(longer, append(append([]whole.Int{}, head...), of(v)))
			}
		}
		list = longer
	}
	return list
}

// isIn tells whether a household is in a part.
func isIn(p Part, home []whole.Int) bool {
	for i, s := range p.Net.Spans {
		if whole.Compare(home[i], s.Low) < 0 || whole.Compare(home[i], s.High) > 0 {
			return false
		}
	}
	values := p.Net.Run(home)
	for _, f := range p.Facts {
		v := net.SumValue(f.Sum, values)
		if whole.Compare(v, f.Low) < 0 || whole.Compare(v, f.High) > 0 {
			return false
		}
	}
	return true
}

func count(p Part, all [][]whole.Int) int {
	n := 0
	for _, home := range all {
		if isIn(p, home) {
			n++
		}
	}
	return n
}

// made makes a part by some facts about what a plan comes to, and tells how many households it has.
func made(t *testing.T, r *rand.Rand) (Part, [][]whole.Int, int) {
	t.Helper()
	plan := drawn(r, 4+r.Intn(25))
	n := net.New(net.SpansOf(plan))
	told := n.Program(plan, nil)
	p := New(n)
	all := homes(plan)
	for range 1 + r.Intn(4) {
		a, b := told.Values[r.Intn(len(told.Values))], told.Values[r.Intn(len(told.Values))]
		s := sum.Sub(a, b).Raised(of(r.Intn(7) - 3))
		q, ok := p.With(s)
		want := 0
		for _, home := range all {
			value := net.SumValue(s, n.Run(home))
			if isIn(p, home) && value.Sign() >= 0 {
				want++
				if !ok || !isIn(q, home) {
					t.Fatalf("%v, with %v at least 0, is without %v", p, s, home)
				}
			}
		}
		if ok && count(q, all) != want {
			t.Fatalf("%v, with %v at least 0, has %d households, want %d", p, s, count(q, all), want)
		}
		if ok {
			p = q
		}
	}
	return p, all, count(p, all)
}

// sameHomes tells whether two parts have the same households.
func sameHomes(p, q Part, all [][]whole.Int) bool {
	for _, home := range all {
		if isIn(p, home) != isIn(q, home) {
			return false
		}
	}
	return true
}

func TestPartsStayTheSame(t *testing.T) {
	r := rand.New(rand.NewSource(1))
	split := 0
	for range 6000 {
		p, all, many := made(t, r)
		q, ok := p.Simplified()
		if !ok {
			if many > 0 {
				t.Fatalf("%v, of %d households, is said to have none", p, many)
			}
			continue
		}
		if !sameHomes(p, q, all) {
			t.Fatalf("%v, simplified, has other households: %v", p, q)
		}
		d, ok := q.Defined()
		if ok && !sameHomes(q, d, all) || !ok && many > 0 {
			t.Fatalf("%v, defined, has other households: %v", q, d)
		}
		if ok {
			split += trySplits(t, r, d, all)
		}
	}
	if split < 500 {
		t.Errorf("%d splits", split)
	}
}

// trySplits splits a part at each node that is open, and tells how often.
func trySplits(t *testing.T, r *rand.Rand, p Part, all [][]whole.Int) int {
	t.Helper()
	times := 0
	for _, at := range p.Named() {
		if !p.IsOpen(at) {
			continue
		}
		times++
		list := p.Split(at)
		total := 0
		for _, q := range list {
			total += count(q, all)
			if s, ok := q.Simplified(); ok && !sameHomes(q, s, all) || !ok && count(q, all) > 0 {
				t.Fatalf("%v, split at %d and simplified, has other households", p, at)
			}
		}
		if len(list) > 2 || total != count(p, all) {
			t.Fatalf("%v, split at %d: %d of %d households", p, at, total, count(p, all))
		}
		if p.Net.Nodes[at].Kind == net.Floor && len(list) == 1 && list[0].IsOpen(at) {
			t.Fatalf("%v: %d is still open", p, at)
		}
	}
	values := make([]whole.Int, len(p.Net.Nodes))
	for i := range values {
		values[i] = of(r.Intn(41) - 20)
	}
	limited, ok := p.Limited(p.Named(), values)
	if !sameHomes(p, limited, all) || !ok && (len(limited.Facts) != len(p.Facts) || isTighter(limited, p)) {
		t.Fatalf("%v, limited, has other households, or more facts beside %v", p, ok)
	}
	return times
}

// isTighter tells whether some fact of a part says more than the same one of another part.
func isTighter(p, q Part) bool {
	for i := range q.Facts {
		if whole.Compare(p.Facts[i].Low, q.Facts[i].Low) != 0 || whole.Compare(p.Facts[i].High, q.Facts[i].High) != 0 {
			return true
		}
	}
	return false
}

// What is settled is gone: of the choices only those are left that hang on something open.
func TestWhatIsSettledIsGone(t *testing.T) {
	n := net.New([]net.Span{{Low: of(0), High: of(1000000000)}})
	x := n.Input(0)
	less := n.AtLeast(x.Raised(of(-100)))
	more := n.AtLeast(x.Raised(of(-300)))
	a := n.Choose(less, sum.Mul(of(10), x), x)
	b := n.Choose(more, sum.Mul(of(20), x), a)
	p := New(n)
	p, ok := p.With(sum.Sub(b, sum.Mul(of(20), x)).Raised(of(-1)))
	if !ok {
		t.Fatal("no household")
	}
	p, ok = p.With(x.Raised(of(-300)))
	if !ok {
		t.Fatal("no household from 300 on")
	}
	// From 300 on the difference is 0, which is not above 0.
	if _, ok = p.Simplified(); ok {
		t.Error("a household from 300 on")
	}
}

// A part of which each household is told by its facts alone is a box of them.
func TestBox(t *testing.T) {
	n := net.New([]net.Span{{Low: of(0), High: of(9)}, {Low: of(0), High: of(9)}, {Low: of(0), High: of(9)}})
	y := n.Input(1)
	x := n.Input(0)
	half := n.Floor(x, of(2))
	p := New(n)
	p, _ = p.With(sum.Sub(half, y).Raised(of(-2)))
	p, ok := p.Defined()
	named := p.Named()
	if !ok || len(named) != 3 || n.Nodes[named[0]].K != 0 || n.Nodes[named[1]].K != 1 || n.Nodes[named[2]].Kind != net.Floor {
		t.Fatalf("named: %v of %v", named, n.Nodes)
	}
	point, state := least.Point(p.Box(named), 1000)
	if state != least.Found || whole.Compare(point[0], of(4)) != 0 || whole.Compare(point[1], of(0)) != 0 || whole.Compare(point[2], of(2)) != 0 {
		t.Errorf("%v, %d", point, state)
	}
}

func TestAPartIsNotChanged(t *testing.T) {
	r := rand.New(rand.NewSource(5))
	for range 300 {
		p, all, many := made(t, r)
		facts := append([]Fact{}, p.Facts...)
		p.Simplified()
		p.Defined()
		p.With(sum.Number(of(5)))
		for _, at := range p.Named() {
			if p.IsOpen(at) {
				p.Split(at)
			}
		}
		p.Limited(p.Named(), make([]whole.Int, len(p.Net.Nodes)))
		if count(p, all) != many || len(facts) != len(p.Facts) || isTighter(Part{p.Net, facts}, p) {
			t.Fatalf("%v was changed", p)
		}
	}
}

// Limits hold whatever is chosen.
func TestLimitsHold(t *testing.T) {
	r := rand.New(rand.NewSource(3))
	limits := 0
	for range 1500 {
		program := drawn(r, 25)
		n := net.New(net.SpansOf(program))
		n.Program(program, nil)
		p := New(n)
		for _, home := range homes(program) {
			values := n.Run(home)
			for at := range n.Nodes {
				for _, s := range p.limits(at) {
					limits++
					value := net.SumValue(s, values)
					if value.Sign() < 0 {
						t.Fatalf("%+v at %v: %v is below 0", n.Nodes[at], home, s)
					}
				}
			}
		}
	}
	if limits < 10000 {
		t.Errorf("%d limits", limits)
	}
}

// The greater of two numbers is at least both, the lesser one at most both; where they are the same does not matter.
func TestLimitsOfTwo(t *testing.T) {
	n := net.New([]net.Span{{Low: of(0), High: of(9)}, {Low: of(0), High: of(9)}})
	x := n.Input(0)
	y := n.Input(1)
	for _, c := range []struct {
		off      int
		greatest bool
	}{{0, true}, {-1, true}, {0, false}, {-1, false}} {
		f := n.AtLeast(sum.Sub(x, y).Raised(of(c.off)))
		chosen, sign := n.Choose(f, x, y), of(1)
		if !c.greatest {
			chosen, sign = n.Choose(f, y, x), of(-1)
		}
		p := New(n)
		at := chosen.Terms[0].At
		got := p.limits(at)
		wantX, wantY := sum.Mul(sign, sum.Sub(chosen, x)), sum.Mul(sign, sum.Sub(chosen, y))
		if len(got) != 2 || !(sum.Same(got[0], wantX) && sum.Same(got[1], wantY)) && !(sum.Same(got[0], wantY) && sum.Same(got[1], wantX)) {
			t.Errorf("%+v: %v", c, got)
		}
		// A value of 4 contradicts that it is the greater one of 5 and 3, and the lesser one of 3 and 5.
		values := make([]whole.Int, len(n.Nodes))
		values[x.Terms[0].At] = of(5)
		values[y.Terms[0].At] = of(3)
		values[at] = of(4)
		limited, ok := p.Limited([]int{at}, values)
		if !ok || len(limited.Facts) != 1 {
			t.Errorf("%+v: %v, %v", c, limited.Facts, ok)
		}
	}
}
