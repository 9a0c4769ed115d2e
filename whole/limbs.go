package whole

// parts tells the limbs of any number, without its sign.
func (a Int) parts() []int {
	if len(a.limbs) > 0 {
		return a.limbs
	}
	rest := a.value
	if rest < 0 {
		rest = -rest
	}
	var limbs []int
	for rest > 0 {
		limbs = append(limbs, rest%base)
		rest /= base
	}
	return limbs
}

// made makes an Int of limbs that may end with zeros.
func made(sign int, limbs []int) Int {
	n := trimmed(limbs)
	if n > 3 || n == 3 && limbs[2] >= small/base/base {
		return Int{sign, limbs[:n]}
	}
	value := 0
	for i := n - 1; i >= 0; i-- {
		value = value*base + limbs[i]
	}
	return Int{value: sign * value}
}

// trimmed tells how many limbs there are up to the last one that is not 0.
func trimmed(limbs []int) int {
	n := len(limbs)
	for n > 0 && limbs[n-1] == 0 {
		n--
	}
	return n
}

func isZero(limbs []int) bool {
	return trimmed(limbs) == 0
}

// limb tells 0 beyond the last one.
func limb(limbs []int, at int) int {
	if at < 0 || at >= len(limbs) {
		return 0
	}
	return limbs[at]
}

func longer(a, b []int) int {
	if len(a) > len(b) {
		return len(a)
	}
	return len(b)
}

func isLess(a, b []int) bool {
	for i := longer(a, b) - 1; i >= 0; i-- {
		x := limb(a, i)
		y := limb(b, i)
		if x != y {
			return x < y
		}
	}
	return false
}

func addLimbs(a, b []int) []int {
	sum := make([]int, longer(a, b)+1)
	carry := 0
	for i := 0; i < len(sum); i++ {
		carry += limb(a, i) + limb(b, i)
		sum[i] = carry & mask
		carry >>= bits
	}
	return sum
}

// subLimbs asks that a is not less than b.
func subLimbs(a, b []int) []int {
	rest := make([]int, len(a))
	carry := 0
	for i := 0; i < len(rest); i++ {
		carry += limb(a, i) - limb(b, i)
		rest[i] = carry & mask
		carry >>= bits
	}
	return rest
}

func mulLimbs(a, b []int) []int {
	product := make([]int, len(a)+len(b))
	for i := 0; i < len(a); i++ {
		carry := 0
		for j := 0; j < len(b); j++ {
			carry += product[i+j] + a[i]*b[j]
			product[i+j] = carry & mask
			carry >>= bits
		}
		product[i+len(b)] = carry
	}
	return product
}

// divLimbs tells a by b, rounded down, and whether there is no rest; the last limb of b is not 0.
func divLimbs(a, b []int) ([]int, bool) {
	if len(a) < len(b) {
		return nil, isZero(a)
	}
	if len(b) == 1 {
		return divByLimb(a, b[0])
	}
	// Both are doubled until the divisor's last limb is at least half of base: then each limb of the quotient can be
	// guessed from the first three limbs, and is at most 1 too great.
	times := 1
	for last := limb(b, len(b)-1); last > 0 && last*times < base/2; {
		times *= 2
	}
	divisor := scaled(b, times)
	rest := scaled(a, times)
	quotient := make([]int, len(a)-len(b)+1)
	for i := len(quotient) - 1; i >= 0; i-- {
		q := guess(rest, divisor, i+len(b))
		if !take(rest, divisor, q, i) {
			q--
			giveBack(rest, divisor, i)
		}
		quotient[i] = q
	}
	return quotient, isZero(rest)
}

func divByLimb(a []int, d int) ([]int, bool) {
	quotient := make([]int, len(a))
	rest := 0
	for i := len(a) - 1; i >= 0 && d > 0; i-- {
		rest = rest*base + a[i]
		quotient[i] = rest / d
		rest %= d
	}
	return quotient, rest == 0
}

// scaled tells limbs times a number below base, with one limb more to hold what goes beyond the last one.
func scaled(limbs []int, times int) []int {
	out := make([]int, len(limbs)+1)
	carry := 0
	for i := 0; i < len(out); i++ {
		carry += limb(limbs, i) * times
		out[i] = carry & mask
		carry >>= bits
	}
	return out
}

// guess tells how often the divisor is in the rest's limbs up to the one numbered top, or 1 more than that. (The last
// limb of the divisor is the one that scaled added; it is 0.)
func guess(rest, divisor []int, top int) int {
	n := len(divisor) - 1
	first := limb(divisor, n-1)
	if first <= 0 {
		return 0
	}
	head := limb(rest, top)*base + limb(rest, top-1)
	q := head / first
	r := head % first
	for r < base && (q >= base || q*limb(divisor, n-2) > r*base+limb(rest, top-2)) {
		q--
		r += first
	}
	return q
}

// take takes q times the divisor from the rest, from its limb numbered from on; false if that was too much.
func take(rest, divisor []int, q, from int) bool {
	carry := 0
	for i := 0; i < len(divisor) && from+i < len(rest); i++ {
		carry += rest[from+i] - q*limb(divisor, i)
		rest[from+i] = carry & mask
		carry >>= bits
	}
	return carry >= 0
}

// giveBack adds the divisor to the rest again; what it carries beyond the last limb is what take was short of.
func giveBack(rest, divisor []int, from int) {
	carry := 0
	for i := 0; i < len(divisor) && from+i < len(rest); i++ {
		carry += rest[from+i] + limb(divisor, i)
		rest[from+i] = carry & mask
		carry >>= bits
	}
}
