package plan

import "testing"

func named(inputs, outs []string, spans ...Span) Plan {
	p := Plan{InputNames: inputs, OutNames: outs}
	for _, s := range spans {
		p.Outs = append(p.Outs, p.AppendInput(s))
	}
	return p
}

func TestIsPair(t *testing.T) {
	x, xk := []string{"x"}, []string{"x", "k"}
	a := named(xk, x, Span{0, 9}, Span{1, 2})
	for i, c := range []struct {
		b    Plan
		want bool
	}{
		{a, true},
		{named([]string{"x", "k"}, []string{"x"}, Span{0, 9}, Span{1, 2}), true},
		{named(xk, x, Span{0, 9}, Span{1, 3}), false},
		{named(xk, x, Span{-1, 9}, Span{1, 2}), false},
		{named([]string{"k", "x"}, x, Span{0, 9}, Span{1, 2}), false},
		{named([]string{"x", "k1"}, x, Span{0, 9}, Span{1, 2}), false},
		{named(x, x, Span{0, 9}), false},
		{named([]string{"x", "k", "l"}, x, Span{0, 9}, Span{1, 2}, Span{0, 0}), false},
		{named(xk, []string{"y"}, Span{0, 9}, Span{1, 2}), false},
		{named(xk, xk, Span{0, 9}, Span{1, 2}), false},
		{named(xk, nil, Span{0, 9}, Span{1, 2}), false},
		{Plan{}, false},
	} {
		if IsPair(a, c.b) != c.want || IsPair(c.b, a) != c.want {
			t.Errorf("line %d: not %v", i, c.want)
		}
	}
}

func TestFirstParting(t *testing.T) {
	a := named(nil, nil, Span{0, 9}, Span{0, 9}, Span{0, 9})
	b := a
	b.Outs = []int{0, 2, 1}
	for _, c := range []struct {
		home []int
		want int
	}{{[]int{1, 2, 3}, 1}, {[]int{1, 2, 2}, -1}} {
		if got := FirstParting(a, b, c.home); got != c.want {
			t.Errorf("at %v: %d, want %d", c.home, got, c.want)
		}
	}
}
