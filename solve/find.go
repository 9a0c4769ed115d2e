package solve

import (
	"statute/lattice"
	"statute/simplex"
	"statute/whole"
)

// find tells the numbers of some point of a region, or false if it has none. Every call of itself is for fewer
// coordinates.
func find(r region) ([]whole.Int, bool) {
	r, ok := settled(r)
	if !ok {
		return nil, false
	}
	if r.size == 0 {
		return constants(r.told), true
	}
	t := simplex.New(r.least, r.size)
	if t.IsEmpty() {
		return nil, false
	}
	r, widths := trimmed(r, t)
	if len(r.zero) > 0 {
		return find(r)
	}
	return search(r, widths)
}

func constants(sums [][]whole.Int) []whole.Int {
	list := make([]whole.Int, len(sums))
	for i := 0; i < len(sums); i++ {
		list[i] = sums[i][0]
	}
	return list
}

// trimmed tells the same region without the sums that are above 0 everywhere in it, and with those that never reach 1
// among the ones that must be 0. Beside that it tells how high the others come.
func trimmed(r region, t *simplex.Table) (region, []whole.Int) {
	var least [][]whole.Int
	var widths []whole.Int
	for i := 0; i < len(r.least); i++ {
		low := t.Lowest(r.least[i])
		if low.Sign() > 0 {
			t.Drop(i)
			continue
		}
		high := t.Highest(r.least[i])
		if high.Sign() == 0 {
			r.zero = with(r.zero, r.least[i])
			continue
		}
		least = append(least, r.least[i])
		widths = append(widths, high)
	}
	r.least = least
	return r, widths
}

// search parts a region into slices, along the coordinate by which there are fewest, and seeks from the middle on. If
// there are many slices, then the region is wide in every direction, and one near the middle has a point.
func search(r region, widths []whole.Int) ([]whole.Int, bool) {
	steps := lattice.Reduce(products(r.least, widths, r.size))
	r = r.turned(steps)
	last := r.size - 1
	low, high := limits(r, last)
	middle := whole.Div(whole.Add(low, high), whole.Of(2))
	offset := whole.Int{}
	for {
		at := whole.Add(middle, offset)
		if whole.Compare(at, high) > 0 {
			return nil, false
		}
		if whole.Compare(at, low) >= 0 {
			point, ok := find(r.fixed(last, at))
			if ok {
				return point, true
			}
		}
		offset = nextOffset(offset)
	}
}

// nextOffset goes from the middle to both sides: 0, 1, -1, 2, -2, and so on.
func nextOffset(offset whole.Int) whole.Int {
	if offset.Sign() > 0 {
		return offset.Neg()
	}
	return whole.Sub(whole.Of(1), offset)
}

// products tells the products of steps along each two coordinates, by a length at which the region is about as wide in
// every direction: each sum counts by the part of its width that it changes.
func products(sums [][]whole.Int, widths []whole.Int, size int) [][]whole.Int {
	var widest whole.Int
	for i := 0; i < len(widths); i++ {
		if whole.Compare(widths[i], widest) > 0 {
			widest = widths[i]
		}
	}
	list := make([][]whole.Int, size)
	for i := 0; i < size; i++ {
		list[i] = make([]whole.Int, size)
	}
	for k := 0; k < len(sums) && k < len(widths); k++ {
		weight := whole.Div(widest, widths[k])
		weight = whole.Mul(weight, weight)
		for i := 0; i < size; i++ {
			weighted := whole.Mul(weight, sums[k][i+1])
			for j := 0; j < size; j++ {
				list[i][j] = whole.Add(list[i][j], whole.Mul(weighted, sums[k][j+1]))
			}
		}
	}
	return list
}

// limits tells from where to where a coordinate goes in a region that is not empty, if its points need not be whole.
func limits(r region, at int) (whole.Int, whole.Int) {
	t := simplex.New(r.least, r.size)
	if t.IsEmpty() {
		return whole.Of(1), whole.Int{}
	}
	sum := make([]whole.Int, r.size+1)
	sum[at+1] = whole.Of(1)
	low := t.Lowest(sum)
	high := t.Highest(sum)
	return low, high
}
