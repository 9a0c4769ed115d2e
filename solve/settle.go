package solve

import "statute/whole"

// settled tells the same region with fewer coordinates, so that no sum of it must be 0, and with sums whose factors have
// no divisor in common; false if that shows that there is no point.
func settled(r region) (region, bool) {
	for len(r.zero) > 0 {
		sum := r.zero[len(r.zero)-1]
		r.zero = r.zero[:len(r.zero)-1]
		next, ok := without(r, sum)
		if !ok {
			return region{}, false
		}
		r = next
	}
	var least [][]whole.Int
	for i := 0; i < len(r.least); i++ {
		divisor := common(r.least[i])
		if divisor.Sign() != 0 {
			least = append(least, divided(r.least[i], divisor))
		} else if r.least[i][0].Sign() < 0 {
			return region{}, false
		}
	}
	r.least = least
	return r, true
}

// without tells the part of a region at which a sum is 0, by one coordinate less if the sum hangs on any.
func without(r region, sum []whole.Int) (region, bool) {
	steps, at := straight(sum)
	if at < 0 {
		return r, sum[0].Sign() == 0
	}
	factor := along(sum, steps[at])
	value := whole.Div(sum[0].Neg(), factor)
	rest := whole.Add(sum[0], whole.Mul(factor, value))
	if rest.Sign() != 0 {
		return region{}, false
	}
	turned := r.turned(steps)
	return turned.fixed(at, value), true
}

// straight tells steps that reach every whole point, of which only one changes the sum, and the number of that one; or
// -1 if none does. It is how the greatest divisor in common is found: the least rise is taken from the others, as often
// as may be, until they are 0.
func straight(sum []whole.Int) ([][]whole.Int, int) {
	size := len(sum) - 1
	rises := make([]whole.Int, size)
	copy(rises, sum[1:])
	steps := units(size)
	for {
		at := leastRise(rises)
		alone := true
		for j := 0; j < size && at >= 0; j++ {
			if j == at || rises[j].Sign() == 0 {
				continue
			}
			alone = false
			times := whole.Div(rises[j], rises[at])
			rises[j] = whole.Sub(rises[j], whole.Mul(times, rises[at]))
			for i := 0; i < size; i++ {
				steps[j][i] = whole.Sub(steps[j][i], whole.Mul(times, steps[at][i]))
			}
		}
		if alone {
			return steps, at
		}
	}
}

// units tells one step of 1 along each coordinate.
func units(size int) [][]whole.Int {
	steps := make([][]whole.Int, size)
	for i := 0; i < size; i++ {
		step := make([]whole.Int, size)
		step[i] = whole.Of(1)
		steps[i] = step
	}
	return steps
}

// leastRise tells which number is the least, without its sign, of those that are not 0, or -1.
func leastRise(rises []whole.Int) int {
	best := -1
	for i := 0; i < len(rises); i++ {
		if rises[i].Sign() != 0 && (best < 0 || whole.Compare(rises[i].Abs(), rises[best].Abs()) < 0) {
			best = i
		}
	}
	return best
}

// common tells the greatest divisor that the factors of a sum have in common, or 0 if all of them are 0.
func common(sum []whole.Int) whole.Int {
	var divisor whole.Int
	for i := 1; i < len(sum); i++ {
		divisor = whole.Gcd(divisor, sum[i])
	}
	return divisor
}

// divided tells a sum by a divisor of its factors. The constant is rounded down: the rest of the sum is whole, so it is
// at least 0 as before.
func divided(sum []whole.Int, divisor whole.Int) []whole.Int {
	list := make([]whole.Int, len(sum))
	for i := 0; i < len(sum); i++ {
		list[i] = whole.Div(sum[i], divisor)
	}
	return list
}
