// Package lattice: steps between whole points that are short and nearly at right angles, by a length of one's own choice.
package lattice

import "statute/whole"

// basis: steps that together reach every whole point.
type basis struct {
	steps    [][]whole.Int
	products [][]whole.Int // of each two steps; a step's own is the square of its length
	// volume[i] is the square of the volume that the first i steps span. The step j, less what lies along the steps
	// ahead of it, is in the step i as often as overlap[i][j] by volume[j+1] says.
	volume  []whole.Int
	overlap [][]whole.Int
}

// Reduce tells steps that reach every whole point, the short ones ahead, as Lenstra, Lenstra and Lovasz find them. Given
// are the products of each two steps of 1 along the coordinates; every step but 0 must have a length.
func Reduce(products [][]whole.Int) [][]whole.Int {
	b := start(products)
	k := 1
	for k < len(b.steps) {
		b.measure()
		for j := k - 1; j >= 0; j-- {
			b.shorten(k, j)
		}
		if b.isOrdered(k) {
			k++
			continue
		}
		b.exchange(k)
		if k > 1 {
			k--
		}
	}
	return b.steps
}

// start makes the basis of one step along each coordinate.
func start(products [][]whole.Int) *basis {
	n := len(products)
	b := &basis{volume: make([]whole.Int, n+1)}
	b.volume[0] = whole.Of(1)
	for i := 0; i < n; i++ {
		step := make([]whole.Int, n)
		step[i] = whole.Of(1)
		list := make([]whole.Int, n)
		for j := 0; j < n && j < len(products[i]); j++ {
			list[j] = products[i][j]
		}
		b.steps = append(b.steps, step)
		b.products = append(b.products, list)
		b.overlap = append(b.overlap, make([]whole.Int, n))
	}
	return b
}

// measure settles the volumes and overlaps from the products. All divisions are without a rest.
func (b *basis) measure() {
	for i := 0; i < len(b.steps); i++ {
		for j := 0; j <= i; j++ {
			u := b.products[i][j]
			for l := 0; l < j; l++ {
				part := whole.Mul(b.overlap[i][l], b.overlap[j][l])
				u = whole.Sub(whole.Mul(b.volume[l+1], u), part)
				u = whole.Div(u, b.volume[l])
			}
			if j < i {
				b.overlap[i][j] = u
			} else {
				b.volume[i+1] = u
			}
		}
	}
}

// shorten takes the step j from the step k as often as brings their overlap nearest to 0.
func (b *basis) shorten(k, j int) {
	v := b.volume[j+1]
	doubled := whole.Add(b.overlap[k][j], b.overlap[k][j])
	times := whole.Div(whole.Add(doubled, v), whole.Add(v, v))
	if times.Sign() == 0 {
		return
	}
	for i := 0; i < len(b.steps); i++ {
		b.steps[k][i] = less(b.steps[k][i], times, b.steps[j][i])
		b.products[k][i] = less(b.products[k][i], times, b.products[j][i])
	}
	for i := 0; i < len(b.steps); i++ {
		b.products[i][k] = less(b.products[i][k], times, b.products[i][j])
	}
	for l := 0; l < j; l++ {
		b.overlap[k][l] = less(b.overlap[k][l], times, b.overlap[j][l])
	}
	b.overlap[k][j] = less(b.overlap[k][j], times, v)
}

// less tells a less so many times b.
func less(a, times, b whole.Int) whole.Int {
	return whole.Sub(a, whole.Mul(times, b))
}

// isOrdered tells whether the step k, less what lies along the steps ahead of the one before it, is not clearly the
// shorter one of the two. With 1 in place of 99 by 100 the exchanges might not end.
func (b *basis) isOrdered(k int) bool {
	along := whole.Mul(b.overlap[k][k-1], b.overlap[k][k-1])
	mine := whole.Add(whole.Mul(b.volume[k+1], b.volume[k-1]), along)
	other := whole.Mul(b.volume[k], b.volume[k])
	order := whole.Compare(whole.Mul(whole.Of(100), mine), whole.Mul(whole.Of(99), other))
	return order >= 0
}

// exchange puts the step k ahead of the one before it.
func (b *basis) exchange(k int) {
	step := b.steps[k]
	b.steps[k] = b.steps[k-1]
	b.steps[k-1] = step
	list := b.products[k]
	b.products[k] = b.products[k-1]
	b.products[k-1] = list
	for i := 0; i < len(b.products); i++ {
		p := b.products[i][k]
		b.products[i][k] = b.products[i][k-1]
		b.products[i][k-1] = p
	}
}
