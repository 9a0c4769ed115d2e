package plan

import (
	"slices"
	"testing"

	"statute/api"
)

// greatestAtMost seeks the greatest whole number q with q*d at most e, by trying.
func greatestAtMost(e, d int) int {
	q := -1000
	for (q+1)*d <= e {
		q++
	}
	return q
}

// leastAtLeast seeks the least whole number q with q*d at least e, by trying.
func leastAtLeast(e, d int) int {
	q := 1000
	for (q-1)*d >= e {
		q--
	}
	return q
}

func TestQuotient(t *testing.T) {
	for d := 1; d <= 12; d++ {
		for e := -60; e <= 60; e++ {
			down := greatestAtMost(e, d)
			up := leastAtLeast(e, d)
			zero := up
			if e > 0 {
				zero = down
			}
			near := greatestAtMost(2*e+d, 2*d)
			got := []int{quotient(Down, e, d), quotient(Up, e, d), quotient(Zero, e, d), quotient(Near, e, d)}
			want := []int{down, up, zero, near}
			if !slices.Equal(got, want) {
				t.Errorf("%d by %d = %v, want %v", e, d, got, want)
			}
		}
	}
}

func TestQuotientOfTheGreatest(t *testing.T) {
	for _, op := range []Op{Down, Up, Zero, Near} {
		for _, e := range []int{api.MaxValue, -api.MaxValue} {
			if got := quotient(op, e, api.MaxParts); got != e/api.MaxParts {
				t.Errorf("%d by %d = %d", e, api.MaxParts, got)
			}
			if got := quotient(op, e, 1); got != e {
				t.Errorf("%d by 1 = %d", e, got)
			}
		}
	}
}

// byOnes counts the rate of each single unit of e that lies in a band; bands begin at from or above it.
func byOnes(e, from int, bands []Band) int {
	sum := 0
	for unit := from; unit < e; unit++ {
		rate := 0
		for _, b := range bands {
			if b.From <= unit {
				rate = b.Rate
			}
		}
		sum += rate
	}
	return sum
}

func TestBandSum(t *testing.T) {
	for _, bands := range [][]Band{
		{{0, 5}},
		{{-7, -3}},
		{{-5, -1}, {5, 3}},
		{{3, 10}, {4, 0}, {5, -20}},
		{{-9, 1}, {-8, 2}, {-1, 3}, {0, 4}, {7, 5}, {20, 1000}},
	} {
		for e := -30; e <= 30; e++ {
			if got, want := bandSum(e, bands), byOnes(e, -20, bands); got != want {
				t.Errorf("%v of %d = %d, want %d", bands, e, got, want)
			}
		}
	}
}

func TestHolds(t *testing.T) {
	for _, c := range []struct {
		op   Op
		a, b int
		want bool
	}{
		{Less, 1, 2, true}, {Less, 2, 2, false}, {Less, 3, 2, false},
		{AtMost, 1, 2, true}, {AtMost, 2, 2, true}, {AtMost, 3, 2, false},
		{Equal, 1, 2, false}, {Equal, 2, 2, true}, {Equal, -2, 2, false},
		{And, 0, 0, false}, {And, 0, 1, false}, {And, 1, 0, false}, {And, 1, 1, true},
		{Or, 0, 0, false}, {Or, 0, 1, true}, {Or, 1, 0, true}, {Or, 1, 1, true},
		{Not, 0, 0, true}, {Not, 1, 0, false},
		{Add, 1, 1, false},
	} {
		if got := holds(c.op, c.a, c.b); got != c.want {
			t.Errorf("op %d of %d, %d = %v", c.op, c.a, c.b, got)
		}
	}
}

// of makes a program of one input and the given nodes behind it, of which the last one is told.
func of(lo, hi int, nodes ...Node) *Plan {
	p := &Plan{}
	last := p.AppendInput(Span{lo, hi})
	for _, n := range nodes {
		last = p.Append(n)
	}
	p.Outs = []int{last}
	return p
}

func TestBounds(t *testing.T) {
	const most = api.MaxNumber
	for _, c := range []struct {
		what  string
		nodes []Node
		want  int
	}{
		{"number", []Node{{Op: Number, K: -7}}, 7},
		{"input", nil, 30},
		{"add", []Node{{Op: Number, K: -7}, {Op: Add, A: 0, B: 1}}, 37},
		{"sub", []Node{{Op: Number, K: 7}, {Op: Sub, A: 0, B: 1}}, 37},
		{"mul", []Node{{Op: Mul, A: 0, K: -4}}, 120},
		{"mul by 0", []Node{{Op: Mul, A: 0, K: 0}}, 0},
		{"min", []Node{{Op: Number, K: 7}, {Op: Min, A: 0, B: 1}}, 30},
		{"max", []Node{{Op: Number, K: -70}, {Op: Max, A: 0, B: 1}}, 70},
		{"if", []Node{{Op: Less, A: 0, B: 0}, {Op: Number, K: 7}, {Op: Number, K: -9}, {Op: If, A: 1, B: 2, C: 3}}, 9},
		{"if, the first", []Node{{Op: Less, A: 0, B: 0}, {Op: Number, K: -7}, {Op: Number, K: 5}, {Op: If, A: 1, B: 2, C: 3}}, 7},
		{"div down", []Node{{Op: Down, A: 0, K: 5}}, 30},
		{"div up", []Node{{Op: Up, A: 0, K: 5}}, 30},
		{"div zero", []Node{{Op: Zero, A: 0, K: 5}}, 30},
		{"div near", []Node{{Op: Near, A: 0, K: 5}}, 30},
		{"tab", []Node{{Op: Tab, A: 0, Bands: []Band{{-4, -2}, {5, 3}}}}, 2*34 + 3*35},
		{"greatest tab", []Node{{Op: Tab, A: 0, Bands: []Band{{most, 1000}}}}, 1000 * (most + 30)},
		{"flag", []Node{{Op: Less, A: 0, B: 0}}, 0},
	} {
		p := of(-30, 20, c.nodes...)
		bounds := make([]int, len(p.Nodes))
		for i, n := range p.Nodes {
			bounds[i] = p.nodeBound(n, bounds)
		}
		if got := bounds[len(bounds)-1]; got != c.want {
			t.Errorf("bound of %s = %d, want %d", c.what, got, c.want)
		}
	}
	if got := of(-20, 30).inputBound(0); got != 30 {
		t.Errorf("bound of an input up to 30 = %d", got)
	}
}

func TestIsBig(t *testing.T) {
	thousand := Node{Op: Mul, A: 0, K: 1000}
	million := Node{Op: Mul, A: 1, K: -1000}
	if of(0, api.MaxNumber, thousand, million).IsBig() {
		t.Error("just the greatest bound is big")
	}
	one := Node{Op: Number, K: 1}
	if !of(0, api.MaxNumber, thousand, million, one, Node{Op: Add, A: 2, B: 3}).IsBig() {
		t.Error("1 above the greatest bound is not big")
	}
	if !of(0, api.MaxNumber, thousand, million, one, Node{Op: Add, A: 2, B: 3}, Node{Op: Mul, A: 4, K: 0}).IsBig() {
		t.Error("what is big within another is not big")
	}
	six := []Band{{-api.MaxNumber, 1000}, {1, 1000}, {2, 1000}, {3, 1000}, {4, 1000}, {api.MaxNumber, 1000}}
	if !of(0, api.MaxNumber, thousand, million, Node{Op: Tab, A: 2, Bands: six}).IsBig() {
		t.Error("the greatest table is not big")
	}
}

// A chain of factors soon leaves every int behind; the walk has to end ahead of that.
func TestIsBigDoesNotOverflow(t *testing.T) {
	p := of(1, 1)
	for i := range 300 {
		p.Append(Node{Op: Mul, A: i, K: 1000})
		if got, want := p.IsBig(), i >= 5; got != want {
			t.Errorf("1000 to the power of %d: big is %v", i+1, got)
		}
	}
}

func TestIsHome(t *testing.T) {
	p := &Plan{Inputs: []Span{{-3, 5}, {7, 7}}}
	for _, home := range [][]int{{-3, 7}, {5, 7}, {0, 7}} {
		if !p.IsHome(home) {
			t.Errorf("%v is no household", home)
		}
	}
	for _, home := range [][]int{nil, {}, {0}, {0, 7, 0}, {-4, 7}, {6, 7}, {0, 6}, {0, 8}, {-1 << 63, 7}, {0, 1<<63 - 1}} {
		if p.IsHome(home) {
			t.Errorf("%v is a household", home)
		}
	}
}

// Nodes that no text makes: a walk answers something, and does not panic.
func TestStrayNodes(t *testing.T) {
	for op := Number; op <= Not+1; op++ {
		for _, at := range []int{-1, 1, 99, 1<<63 - 1, -1 << 63} {
			p := of(0, 9, Node{Op: op, A: at, B: at, C: at, K: at})
			p.Outs = []int{1, at}
			p.IsBig()
			if got := p.Run(nil); len(got) != 2 {
				t.Errorf("op %d at %d: %v", op, at, got)
			}
		}
	}
	p := of(0, 9, Node{Op: Down, A: 0, K: 0}, Node{Op: Near, A: 0, K: -3})
	if got := p.Run([]int{5}); !slices.Equal(got, []int{0}) {
		t.Errorf("by a divisor below 1: %v", got)
	}
}

func TestIsFlag(t *testing.T) {
	for op := Number; op <= Not; op++ {
		want := op >= Less
		if op.IsFlag() != want {
			t.Errorf("operation %d is a flag: %v", op, !want)
		}
	}
}
