package sum

import (
	"math/rand"
	"testing"

	"statute/whole"
)

func of(v int) whole.Int { return whole.Of(v) }

// made makes a sum of a constant and of numbers of times, of the terms 0, 1, 2 and so on.
func made(k int, times ...int) Sum {
	s := Number(of(k))
	for i, t := range times {
		s = AddTimes(s, of(t), Single(i))
	}
	return s
}

// at tells what a sum comes to for numbers that stand for its terms.
func at(s Sum, x []int) int {
	v, _ := s.Constant.Small()
	for _, t := range s.Terms {
		times, _ := t.Times.Small()
		v += times * x[t.At]
	}
	return v
}

func drawn(r *rand.Rand) Sum {
	s := Number(of(r.Intn(21) - 10))
	for range r.Intn(6) {
		s = AddTimes(s, of(r.Intn(9)-4), Single(r.Intn(4)))
	}
	return s
}

// isNeat tells whether the terms are in order, and none of them counts 0 times.
func isNeat(s Sum) bool {
	for i, t := range s.Terms {
		if t.Times.Sign() == 0 || i > 0 && s.Terms[i-1].At >= t.At {
			return false
		}
	}
	return true
}

func TestSums(t *testing.T) {
	r := rand.New(rand.NewSource(1))
	for range 3000 {
		a, b := drawn(r), drawn(r)
		k := r.Intn(11) - 5
		x := []int{r.Intn(99) - 50, r.Intn(99) - 50, r.Intn(99) - 50, r.Intn(99) - 50}
		for _, c := range []struct {
			what string
			got  Sum
			want int
		}{
			{"add", Add(a, b), at(a, x) + at(b, x)},
			{"sub", Sub(a, b), at(a, x) - at(b, x)},
			{"mul", Mul(of(k), a), k * at(a, x)},
			{"add times", AddTimes(a, of(k), b), at(a, x) + k*at(b, x)},
			{"raised", a.Raised(of(k)), at(a, x) + k},
			{"times and divided", Mul(of(7), a).Divided(of(7)), at(a, x)},
			{"times and divided by less than 0", Mul(of(-7), a).Divided(of(-7)), at(a, x)},
		} {
			if !isNeat(c.got) || at(c.got, x) != c.want {
				t.Fatalf("%s of %v, %v, %d = %v", c.what, a, b, k, c.got)
			}
		}
		if !Same(Sub(Add(a, b), b), a) || Add(a, b).Mark() != Add(b, a).Mark() {
			t.Fatalf("%v and %v: what is the same is not written the same way", a, b)
		}
		if Same(a, a.Raised(of(1))) || !SameTerms(a, a.Raised(of(1))) || Same(a, Add(a, Single(2))) {
			t.Fatalf("%v: what is not the same is the same", a)
		}
	}
}

func TestNothingIsChanged(t *testing.T) {
	a := made(5, 1, 2, 3)
	b := made(7, -1, 0, 4)
	mark, other := a.Mark(), b.Mark()
	Add(a, b)
	Sub(a, b)
	Mul(of(3), a)
	a.Divided(of(3))
	if a.Mark() != mark || b.Mark() != other || !Same(a, made(5, 1, 2, 3)) || !Same(b, made(7, -1, 0, 4)) {
		t.Errorf("%v, %v", a, b)
	}
}

func TestDivisor(t *testing.T) {
	for _, c := range []struct {
		s    Sum
		want int
	}{
		{made(7), 0}, {made(7, 3), 3}, {made(7, -3), 3}, {made(1, 4, 6), 2}, {made(1, 4, 0, -6, 9), 1}, {made(0, 0), 0},
	} {
		if got, _ := c.s.Divisor().Small(); got != c.want {
			t.Errorf("divisor of %v = %d, want %d", c.s, got, c.want)
		}
	}
}

func TestDividedRoundsTheConstantDown(t *testing.T) {
	for k := -9; k <= 9; k++ {
		got := made(k, 6, -3).Divided(of(3))
		if !SameTerms(got, made(0, 2, -1)) || whole.Compare(got.Constant, whole.Div(of(k), of(3))) != 0 {
			t.Errorf("%d and terms by 3 = %v", k, got)
		}
	}
}

func TestSign(t *testing.T) {
	for _, c := range []struct {
		s    Sum
		want int
	}{
		{made(0), 0}, {made(5), 1}, {made(-5), -1}, {made(-5, 1), 1}, {made(5, 0, -1, 9), -1},
	} {
		if c.s.Sign() != c.want || c.s.IsNumber() != (len(c.s.Terms) == 0) {
			t.Errorf("%v: sign %d, want %d", c.s, c.s.Sign(), c.want)
		}
	}
}
