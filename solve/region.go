package solve

import "statute/whole"

// region: the whole points at which some sums of the coordinates are 0 and others at least 0. A sum has a constant ahead,
// then one factor for each coordinate. What is asked for are not the coordinates themselves, which change from region to
// region, but the numbers told of them. No list of a region is changed once it is made.
type region struct {
	size  int // how many coordinates
	zero  [][]whole.Int
	least [][]whole.Int // at least 0
	told  [][]whole.Int
}

// turned tells the region by coordinates that count the given steps, which must reach every whole point.
func (r region) turned(steps [][]whole.Int) region {
	return region{len(steps), turnedSums(r.zero, steps), turnedSums(r.least, steps), turnedSums(r.told, steps)}
}

func turnedSums(sums [][]whole.Int, steps [][]whole.Int) [][]whole.Int {
	list := make([][]whole.Int, len(sums))
	for i := 0; i < len(sums); i++ {
		turned := make([]whole.Int, len(steps)+1)
		turned[0] = sums[i][0]
		for j := 0; j < len(steps); j++ {
			turned[j+1] = along(sums[i], steps[j])
		}
		list[i] = turned
	}
	return list
}

// along tells by how much a sum rises with a step.
func along(sum []whole.Int, step []whole.Int) whole.Int {
	var rise whole.Int
	for i := 0; i < len(step) && i+1 < len(sum); i++ {
		rise = whole.Add(rise, whole.Mul(sum[i+1], step[i]))
	}
	return rise
}

// fixed tells the part of the region that has a certain number at a coordinate, without that coordinate.
func (r region) fixed(at int, value whole.Int) region {
	return region{r.size - 1, fixedSums(r.zero, at, value), fixedSums(r.least, at, value), fixedSums(r.told, at, value)}
}

func fixedSums(sums [][]whole.Int, at int, value whole.Int) [][]whole.Int {
	list := make([][]whole.Int, len(sums))
	for i := 0; i < len(sums); i++ {
		var fixed []whole.Int
		for j := 0; j < len(sums[i]); j++ {
			if j != at+1 {
				fixed = append(fixed, sums[i][j])
			}
		}
		list[i] = raised(fixed, whole.Mul(sums[i][at+1], value))
	}
	return list
}

// raised tells a sum with more as its constant.
func raised(sum []whole.Int, by whole.Int) []whole.Int {
	list := make([]whole.Int, len(sum))
	copy(list, sum)
	list[0] = whole.Add(list[0], by)
	return list
}

func opposite(sum []whole.Int) []whole.Int {
	list := make([]whole.Int, len(sum))
	for i := 0; i < len(sum); i++ {
		list[i] = sum[i].Neg()
	}
	return list
}

// with tells a list of sums and one more.
func with(sums [][]whole.Int, sum []whole.Int) [][]whole.Int {
	list := make([][]whole.Int, len(sums), len(sums)+1)
	copy(list, sums)
	list = append(list, sum)
	return list
}
