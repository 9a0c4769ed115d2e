// Package solve: the least whole numbers at which given sums of them are 0 or at least 0, however wide their ranges.
package solve

import (
	"statute/api"
	"statute/simplex"
	"statute/whole"
)

// Least tells the least list of numbers, one from each range, at which all rows hold; false if there is none.
func Least(vars []api.Range, rows []api.Row) ([]int, bool, api.Errno) {
	if !areRanges(vars) || !areRows(rows, len(vars)) {
		return nil, false, api.ErrRows
	}
	point, ok := leastPoint(regionOf(vars, rows))
	if !ok {
		return nil, false, api.OK
	}
	list := make([]int, len(point))
	for i := 0; i < len(point); i++ {
		v, _ := point[i].Small()
		list[i] = v
	}
	return list, true, api.OK
}

func areRanges(vars []api.Range) bool {
	if len(vars) < 1 || len(vars) > api.MaxVars {
		return false
	}
	for i := 0; i < len(vars); i++ {
		if !within(vars[i].Lo, api.MaxNumber) || !within(vars[i].Hi, api.MaxNumber) || vars[i].Lo > vars[i].Hi {
			return false
		}
	}
	return true
}

func areRows(rows []api.Row, size int) bool {
	if len(rows) > api.MaxRows {
		return false
	}
	for i := 0; i < len(rows); i++ {
		if len(rows[i].C) != size || !within(rows[i].K, api.MaxConst) {
			return false
		}
		for j := 0; j < size; j++ {
			if !within(rows[i].C[j], api.MaxTimes) {
				return false
			}
		}
	}
	return true
}

func within(a, limit int) bool {
	return a >= -limit && a <= limit
}

// regionOf makes the region of the numbers, one coordinate for each of them.
func regionOf(vars []api.Range, rows []api.Row) region {
	r := region{size: len(vars)}
	for i := 0; i < len(vars); i++ {
		number := make([]whole.Int, len(vars)+1)
		number[i+1] = whole.Of(1)
		r.told = append(r.told, number)
		r.least = append(r.least, raised(number, whole.Of(-vars[i].Lo)))
		r.least = append(r.least, raised(opposite(number), whole.Of(vars[i].Hi)))
	}
	for i := 0; i < len(rows); i++ {
		sum := []whole.Int{whole.Of(rows[i].K)}
		for j := 0; j < len(vars); j++ {
			sum = append(sum, whole.Of(rows[i].C[j]))
		}
		if rows[i].Equal {
			r.zero = append(r.zero, sum)
		} else {
			r.least = append(r.least, sum)
		}
	}
	return r
}

// leastPoint tells the least list of numbers that a point of a region has.
func leastPoint(r region) ([]whole.Int, bool) {
	r, ok := settled(r)
	if !ok {
		return nil, false
	}
	point, ok := find(r)
	for i := 0; i < len(r.told) && ok; i++ {
		point = lowered(r, i, point)
		sum := raised(r.told[i], point[i].Neg())
		r.zero = with(r.zero, sum)
		r, ok = settled(r)
	}
	return point, ok
}

// lowered tells a point of a region with the least number that there is at a place, given any point. First it seeks
// near the lower end, which often is the answer, then it halves what is left.
func lowered(r region, at int, point []whole.Int) []whole.Int {
	t := simplex.New(r.least, r.size)
	if t.IsEmpty() {
		return point
	}
	low := t.Lowest(r.told[at])
	reach := whole.Int{}
	for whole.Compare(low, point[at]) < 0 {
		top := whole.Add(low, reach)
		middle := whole.Div(whole.Sub(whole.Add(low, point[at]), whole.Of(1)), whole.Of(2))
		if whole.Compare(middle, top) < 0 {
			top = middle
		}
		part := r
		part.least = with(r.least, raised(opposite(r.told[at]), top))
		lower, ok := find(part)
		if ok {
			point = lower
		} else {
			low = whole.Add(top, whole.Of(1))
			reach = whole.Add(whole.Mul(reach, whole.Of(4)), whole.Of(3))
		}
	}
	return point
}

// Point tells the least list of the first so many coordinates at which some sums of the coordinates are 0 and others at
// least 0; false if there is none. Each sum has a constant ahead, then one factor for each coordinate. Together they must
// bound every coordinate from both sides.
func Point(size int, zero, least [][]whole.Int, first int) ([]whole.Int, bool) {
	r := region{size: size, zero: zero, least: least}
	for i := 0; i < first && i < size; i++ {
		number := make([]whole.Int, size+1)
		number[i+1] = whole.Of(1)
		r.told = append(r.told, number)
	}
	return leastPoint(r)
}
