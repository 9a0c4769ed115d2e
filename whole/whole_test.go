package whole

import (
	"math/big"
	"testing"
)

const (
	most  = 1<<63 - 1
	least = -1 << 63
)

func toBig(a Int) *big.Int {
	b := new(big.Int)
	for i := len(a.limbs) - 1; i >= 0; i-- {
		b.Lsh(b, bits)
		b.Add(b, big.NewInt(int64(a.limbs[i])))
	}
	if len(a.limbs) == 0 {
		return big.NewInt(int64(a.value))
	}
	return b.Mul(b, big.NewInt(int64(a.value)))
}

// isSound: small numbers have no limbs, the others a sign and a last limb that is not 0.
func isSound(a Int) bool {
	limit := new(big.Int).Lsh(big.NewInt(1), 62)
	if toBig(a).CmpAbs(limit) < 0 {
		return len(a.limbs) == 0
	}
	for _, l := range a.limbs {
		if l < 0 || l >= base {
			return false
		}
	}
	return (a.value == 1 || a.value == -1) && a.limbs[len(a.limbs)-1] != 0
}

// edges: numbers about every width at which a number is kept otherwise, of both signs.
func edges() []Int {
	list := []Int{{}, Of(most), Of(most - 1), Of(least), Of(least + 1), Of(1000), Of(-7), Of(123456789012)}
	power := Of(1)
	for i := 1; i < 155; i++ {
		power = Add(power, power)
		if i%30 < 4 || i%30 == 29 || i == 15 {
			for d := -1; d <= 1; d++ {
				list = append(list, Add(power, Of(d)), Add(power.Neg(), Of(d)))
			}
		}
	}
	return list
}

func TestOfAndSmall(t *testing.T) {
	for _, v := range []int{0, 1, -1, base - 1, base, small - 1, small, small + 1, 1 - small, -small, -small - 1, most, least} {
		a := Of(v)
		if toBig(a).Cmp(big.NewInt(int64(v))) != 0 || !isSound(a) {
			t.Errorf("Of(%d) = %v", v, a)
		}
		got, ok := a.Small()
		want := v > -small && v < small
		if ok != want || ok && got != v || !ok && got != 0 {
			t.Errorf("Of(%d).Small() = %d, %v", v, got, ok)
		}
	}
}

func TestArithmetic(t *testing.T) {
	list := edges()
	for _, a := range list {
		for _, b := range list {
			tryPair(t, a, b)
		}
	}
}

func tryPair(t *testing.T, a, b Int) {
	t.Helper()
	x := toBig(a)
	y := toBig(b)
	same := func(what string, got Int, want *big.Int) {
		t.Helper()
		if toBig(got).Cmp(want) != 0 || !isSound(got) {
			t.Fatalf("%s of %v, %v = %v, want %v", what, x, y, toBig(got), want)
		}
	}
	same("Add", Add(a, b), new(big.Int).Add(x, y))
	same("Sub", Sub(a, b), new(big.Int).Sub(x, y))
	same("Mul", Mul(a, b), new(big.Int).Mul(x, y))
	same("Gcd", Gcd(a, b), new(big.Int).GCD(nil, nil, new(big.Int).Abs(x), new(big.Int).Abs(y)))
	same("Div", Div(a, b), floorOf(x, y))
	if Compare(a, b) != x.Cmp(y) {
		t.Fatalf("Compare(%v, %v) = %d", x, y, Compare(a, b))
	}
	if toBig(a).Cmp(x) != 0 || toBig(b).Cmp(y) != 0 {
		t.Fatalf("a number was changed: %v, %v", x, y)
	}
}

// floorOf rounds down; by 0 it is 0.
func floorOf(x, y *big.Int) *big.Int {
	if y.Sign() == 0 {
		return new(big.Int)
	}
	q, r := new(big.Int).QuoRem(x, y, new(big.Int))
	if r.Sign() != 0 && r.Sign() != y.Sign() {
		q.Sub(q, big.NewInt(1))
	}
	return q
}

func TestSigns(t *testing.T) {
	for _, a := range edges() {
		x := toBig(a)
		if a.Sign() != x.Sign() || toBig(a.Neg()).Cmp(new(big.Int).Neg(x)) != 0 || toBig(a.Abs()).Cmp(new(big.Int).Abs(x)) != 0 {
			t.Errorf("%v: sign %d, opposite %v, without its sign %v", x, a.Sign(), toBig(a.Neg()), toBig(a.Abs()))
		}
	}
}

// Limbs that are all ones, zeros or in between: the guesses of a long division go wrong there.
func TestLongDivision(t *testing.T) {
	shapes := []int{0, 1, base/2 - 1, base / 2, base/2 + 1, base - 2, base - 1}
	var list []Int
	for _, a := range shapes {
		for _, b := range shapes {
			for _, c := range shapes {
				for _, d := range []int{1, base / 2, base - 1} {
					list = append(list, made(1, []int{a, b, c, d}))
				}
			}
		}
	}
	for i := 0; i < len(list); i += 7 {
		for j := 0; j < len(list); j += 5 {
			tryPair(t, Mul(list[i], list[j]), list[j])
			tryPair(t, Sub(Mul(list[i], list[j]), Of(1)), list[j].Neg())
		}
	}
}

func TestZeroByItself(t *testing.T) {
	var zero Int
	if zero.Sign() != 0 || Compare(zero, Of(0)) != 0 {
		t.Error("an Int by itself is not 0")
	}
}
