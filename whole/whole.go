// Package whole: whole numbers without a greatest one. The corners of a region and the lengths in a lattice soon leave
// every int behind, though the answer that they lead to does not.
package whole

const (
	bits  = 30 // of a limb: the product of two limbs, and two more beside it, still is an int
	base  = 1 << bits
	mask  = base - 1
	small = 1 << 62 // what is below this, without its sign, is kept as an int: the sum of two such is one too
)

// Int: a whole number; by itself it is 0. It is never changed once it is made, so that it may be shared.
type Int struct {
	value int   // the number; beside limbs, only its sign: -1 or 1
	limbs []int // of a number that is not small: without its sign, the least limb ahead, the last one not 0
}

// Of makes an Int of an int.
func Of(v int) Int {
	if v > -small && v < small {
		return Int{value: v}
	}
	sign := -1
	rest := v
	if v > 0 {
		// The limbs are taken from what is below 0, for the least int has no opposite.
		sign = 1
		rest = -v
	}
	var limbs []int
	for rest < 0 {
		limbs = append(limbs, -(rest % base))
		rest /= base
	}
	return Int{sign, limbs}
}

// Small tells the number as an int, if it is below 2 to the power of 62 without its sign.
func (a Int) Small() (int, bool) {
	if len(a.limbs) > 0 {
		return 0, false
	}
	return a.value, true
}

// Sign tells -1, 0 or 1.
func (a Int) Sign() int {
	if a.value < 0 {
		return -1
	}
	if a.value > 0 {
		return 1
	}
	return 0
}

// Neg tells the opposite.
func (a Int) Neg() Int {
	return Int{-a.value, a.limbs}
}

// Abs tells the number without its sign.
func (a Int) Abs() Int {
	if a.value < 0 {
		return a.Neg()
	}
	return a
}

// Compare tells -1 if a is less than b, 0 if both are the same, 1 if a is greater.
func Compare(a, b Int) int {
	if len(a.limbs) == 0 && len(b.limbs) == 0 {
		if a.value < b.value {
			return -1
		}
		if a.value > b.value {
			return 1
		}
		return 0
	}
	d := Sub(a, b)
	return d.Sign()
}

// Add tells both together.
func Add(a, b Int) Int {
	if len(a.limbs) == 0 && len(b.limbs) == 0 {
		return Of(a.value + b.value)
	}
	x := a.parts()
	y := b.parts()
	if a.value < 0 && b.value < 0 {
		return made(-1, addLimbs(x, y))
	}
	if a.value >= 0 && b.value >= 0 {
		return made(1, addLimbs(x, y))
	}
	if isLess(x, y) {
		return made(b.Sign(), subLimbs(y, x))
	}
	return made(a.Sign(), subLimbs(x, y))
}

// Sub tells a less b.
func Sub(a, b Int) Int {
	if len(a.limbs) == 0 && len(b.limbs) == 0 {
		return Of(a.value - b.value)
	}
	return Add(a, b.Neg())
}

// Mul tells a times b.
func Mul(a, b Int) Int {
	if len(a.limbs) == 0 && len(b.limbs) == 0 && fits(a.value, b.value) {
		return Int{value: a.value * b.value}
	}
	x := a.parts()
	y := b.parts()
	return made(a.Sign()*b.Sign(), mulLimbs(x, y))
}

// fits tells whether the product of two small numbers is small.
func fits(a, b int) bool {
	if a < 0 {
		a = -a
	}
	if b < 0 {
		b = -b
	}
	if a < base && b < base {
		return true
	}
	return b == 0 || a <= (small-1)/b
}

// Div tells the greatest whole number that is at most a by b. By 0 it tells 0: nobody asks for that.
func Div(a, b Int) Int {
	if b.value == 0 {
		return Int{}
	}
	if len(a.limbs) == 0 && len(b.limbs) == 0 {
		q := a.value / b.value
		if a.value%b.value != 0 && (a.value < 0) != (b.value < 0) {
			q--
		}
		return Int{value: q}
	}
	x := a.parts()
	y := b.parts()
	limbs, even := divLimbs(x, y)
	q := made(a.Sign()*b.Sign(), limbs)
	if even || (a.value < 0) == (b.value < 0) {
		return q
	}
	return Sub(q, Int{value: 1})
}

// Gcd tells the greatest number that parts both without a rest; it is 0 if both are 0.
func Gcd(a, b Int) Int {
	x := a.Abs()
	y := b.Abs()
	for y.value != 0 {
		q := Div(x, y)
		rest := Sub(x, Mul(q, y))
		x = y
		y = rest
	}
	return x
}
