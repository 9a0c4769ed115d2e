package lattice

import (
	"math/big"
	"math/rand"
	"testing"

	"statute/whole"
)

func matrix(lists ...[]int) [][]whole.Int {
	var out [][]whole.Int
	for _, l := range lists {
		var list []whole.Int
		for _, v := range l {
			list = append(list, whole.Of(v))
		}
		out = append(out, list)
	}
	return out
}

func number(a whole.Int) int {
	v, ok := a.Small()
	if !ok {
		return 1 << 62
	}
	return v
}

func product(products [][]whole.Int, a, b []whole.Int) *big.Rat {
	sum := new(big.Int)
	for i := range a {
		for j := range b {
			part := big.NewInt(int64(number(products[i][j])))
			part.Mul(part, big.NewInt(int64(number(a[i]))))
			part.Mul(part, big.NewInt(int64(number(b[j]))))
			sum.Add(sum, part)
		}
	}
	return new(big.Rat).SetInt(sum)
}

// determinant, by fractions.
func determinant(steps [][]whole.Int) *big.Rat {
	n := len(steps)
	m := make([][]*big.Rat, n)
	for i := range n {
		for j := range n {
			m[i] = append(m[i], big.NewRat(int64(number(steps[i][j])), 1))
		}
	}
	d := big.NewRat(1, 1)
	for c := range n {
		r := c
		for r < n && m[r][c].Sign() == 0 {
			r++
		}
		if r == n {
			return new(big.Rat)
		}
		if r != c {
			m[r], m[c] = m[c], m[r]
			d.Neg(d)
		}
		d.Mul(d, m[c][c])
		for i := c + 1; i < n; i++ {
			f := new(big.Rat).Quo(m[i][c], m[c][c])
			for j := range n {
				m[i][j] = new(big.Rat).Sub(m[i][j], new(big.Rat).Mul(f, m[c][j]))
			}
		}
	}
	return d
}

// isReduced takes from each step what lies along those ahead of it, by fractions, and looks at the lengths of the rests.
func isReduced(products, steps [][]whole.Int) bool {
	n := len(steps)
	mu := make([][]*big.Rat, n)
	square := make([]*big.Rat, n)
	for i := range n {
		mu[i] = make([]*big.Rat, n)
		square[i] = product(products, steps[i], steps[i])
		for j := range i {
			dot := product(products, steps[i], steps[j])
			for l := range j {
				part := new(big.Rat).Mul(mu[i][l], mu[j][l])
				dot.Sub(dot, part.Mul(part, square[l]))
			}
			mu[i][j] = dot.Quo(dot, square[j])
			if new(big.Rat).Abs(mu[i][j]).Cmp(big.NewRat(1, 2)) > 0 {
				return false
			}
			part := new(big.Rat).Mul(mu[i][j], mu[i][j])
			square[i].Sub(square[i], part.Mul(part, square[j]))
		}
		if i > 0 {
			least := new(big.Rat).Sub(big.NewRat(99, 100), new(big.Rat).Mul(mu[i][i-1], mu[i][i-1]))
			if square[i].Cmp(least.Mul(least, square[i-1])) < 0 {
				return false
			}
		}
	}
	return true
}

func tryReduce(t *testing.T, products [][]whole.Int) [][]whole.Int {
	t.Helper()
	steps := Reduce(products)
	d := determinant(steps)
	if len(steps) != len(products) || d.Abs(d).Cmp(big.NewRat(1, 1)) != 0 {
		t.Fatalf("the steps %v do not reach every point", steps)
	}
	if !isReduced(products, steps) {
		t.Fatalf("the steps %v are long", steps)
	}
	return steps
}

func TestReduceKeepsShortSteps(t *testing.T) {
	for _, products := range [][][]whole.Int{
		nil, matrix([]int{5}), matrix([]int{1, 0}, []int{0, 1}), matrix([]int{3, 0, 0}, []int{0, 4, 0}, []int{0, 0, 5}),
	} {
		steps := tryReduce(t, products)
		for i := range steps {
			for j := range steps {
				if got := number(steps[i][j]); got != 1 && i == j || got != 0 && i != j {
					t.Errorf("step %d: %v", i, steps[i])
				}
			}
		}
	}
}

func TestReduceOrders(t *testing.T) {
	steps := tryReduce(t, matrix([]int{100, 0}, []int{0, 1}))
	if number(steps[0][0]) != 0 || number(steps[1][1]) != 0 {
		t.Errorf("the long step stands ahead: %v", steps)
	}
}

// In a thin slab the only short step is along it: a = 1000, b = 999 leave 999a - 1000b as it is.
func TestReduceFindsTheSlab(t *testing.T) {
	steps := tryReduce(t, matrix([]int{999*999*1000000000 + 1, -999 * 1000 * 1000000000}, []int{-999 * 1000 * 1000000000, 1000*1000*1000000000 + 1}))
	a, b := number(steps[0][0]), number(steps[0][1])
	if (a != 1000 || b != 999) && (a != -1000 || b != -999) {
		t.Errorf("the short step is %d, %d", a, b)
	}
}

func TestReduceDrawn(t *testing.T) {
	r := rand.New(rand.NewSource(5))
	for k := range 400 {
		n := 1 + k%5
		size := 1 + r.Intn(3000)
		rows := make([][]int, n+r.Intn(4))
		for i := range rows {
			for range n {
				rows[i] = append(rows[i], r.Intn(2*size+1)-size)
			}
		}
		products := make([][]whole.Int, n)
		for i := range n {
			for j := range n {
				sum := 0
				if i == j {
					sum = 1 // so that every step has a length
				}
				for _, row := range rows {
					sum += row[i] * row[j]
				}
				products[i] = append(products[i], whole.Of(sum))
			}
		}
		tryReduce(t, products)
	}
}
