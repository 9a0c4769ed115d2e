package least

import "statute/whole"

// table: each line is a sum of the columns, which are 0 at the corner where it stands and at least 0 everywhere; so must
// be the lines. The first lines are the numbers themselves, less the lower ends of their ranges. Each column is such that
// its first line there that is not 0 rises with it: so no list is less than the corner.
type table struct {
	lines [][]whole.Int // a constant, then one cell for each column
	scale whole.Int     // above 0: each line tells so many times its sum
	size  int           // how many numbers, and how many columns
}

func tableOf(b Box) *table {
	t := &table{scale: whole.Of(1), size: len(b.Low)}
	for i := 0; i < t.size; i++ {
		t.lines = append(t.lines, t.unit(i, whole.Of(1), whole.Int{}))
	}
	for i := 0; i < t.size; i++ {
		width := whole.Sub(b.High[i], b.Low[i])
		t.lines = append(t.lines, t.unit(i, whole.Of(-1), width))
	}
	for i := 0; i < len(b.Rows); i++ {
		low, high := b.reach(b.Rows[i])
		if whole.Compare(low, b.Rows[i].Low) < 0 {
			t.lines = append(t.lines, t.line(b.Rows[i], b.Low, 1))
		}
		if whole.Compare(high, b.Rows[i].High) > 0 {
			t.lines = append(t.lines, t.line(b.Rows[i], b.Low, -1))
		}
	}
	return t
}

func (t *table) unit(at int, cell, constant whole.Int) []whole.Int {
	line := make([]whole.Int, t.size+1)
	line[0] = constant
	line[at+1] = cell
	return line
}

// line tells by how much a row's sum is above the lower end of its range, or below the upper end if sign is -1.
func (t *table) line(row Row, from []whole.Int, sign int) []whole.Int {
	line := make([]whole.Int, t.size+1)
	line[0] = row.Low.Neg()
	if sign < 0 {
		line[0] = row.High
	}
	for i := 0; i < t.size; i++ {
		times := row.Times[i]
		if sign < 0 {
			times = times.Neg()
		}
		line[i+1] = times
		line[0] = whole.Add(line[0], whole.Mul(times, from[i]))
	}
	return line
}

// climb goes to the least corner that is whole.
func (t *table) climb(most int) State {
	for n := 0; n < most; n++ {
		r := t.lowestLine()
		if r < 0 {
			if !t.cut() {
				return Found
			}
			r = len(t.lines) - 1
		}
		c := t.columnFor(r)
		if c < 0 {
			return None
		}
		t.turn(r, c)
	}
	return Open
}

// lowestLine tells the line that is farthest below 0, or -1.
func (t *table) lowestLine() int {
	best := -1
	for r := 0; r < len(t.lines); r++ {
		constant := t.lines[r][0]
		if constant.Sign() < 0 && (best < 0 || whole.Compare(constant, t.lines[best][0]) < 0) {
			best = r
		}
	}
	return best
}

// columnFor tells the column by which the line r is brought up to 0 with the least rise of the numbers, or -1.
func (t *table) columnFor(r int) int {
	best := -1
	for c := 1; c <= t.size; c++ {
		if t.lines[r][c].Sign() > 0 && (best < 0 || t.risesLess(c, best, r)) {
			best = c
		}
	}
	return best
}

// risesLess tells whether the column a, by as much as the line r needs, raises the numbers less than the column b.
func (t *table) risesLess(a, b, r int) bool {
	for i := 0; i < t.size; i++ {
		x := whole.Mul(t.lines[i][a], t.lines[r][b])
		y := whole.Mul(t.lines[i][b], t.lines[r][a])
		order := whole.Compare(x, y)
		if order != 0 {
			return order < 0
		}
	}
	return false
}

// turn makes the line r a column, in place of the column c. The cell of both is above 0. The divisions have no rest, as
// all cells are determinants of the first table's.
func (t *table) turn(r, c int) {
	pivot := t.lines[r][c]
	line := make([]whole.Int, len(t.lines[r]))
	copy(line, t.lines[r])
	isScale := whole.Compare(pivot, t.scale) == 0
	for i := 0; i < len(t.lines); i++ {
		cells := t.lines[i]
		factor := cells[c]
		if factor.Sign() == 0 && isScale {
			continue
		}
		for j := 0; j < len(cells); j++ {
			if j == c {
				continue
			}
			product := whole.Mul(pivot, cells[j])
			if factor.Sign() != 0 && line[j].Sign() != 0 {
				product = whole.Sub(product, whole.Mul(factor, line[j]))
			}
			cells[j] = whole.Div(product, t.scale)
		}
	}
	t.scale = pivot
}

// cut adds a line that is below 0 at the corner but not at any list: what a number is above the next lower whole one is
// made up of the columns' parts alone, so these come to at least what is missing. False if the corner is whole.
func (t *table) cut() bool {
	for r := 0; r < t.size; r++ {
		over := t.rest(t.lines[r][0])
		if over.Sign() == 0 {
			continue
		}
		line := make([]whole.Int, t.size+1)
		line[0] = whole.Sub(over, t.scale)
		for c := 1; c <= t.size; c++ {
			line[c] = t.rest(t.lines[r][c])
		}
		t.lines = append(t.lines, line)
		return true
	}
	return false
}

// rest tells what a cell is above the next lower multiple of the scale.
func (t *table) rest(cell whole.Int) whole.Int {
	times := whole.Div(cell, t.scale)
	return whole.Sub(cell, whole.Mul(times, t.scale))
}

// corner tells the numbers at the corner. If they are not a list of the box, it tells the least list within the ranges
// that is not less than the corner, or one that is less still.
func (t *table) corner(b Box) []whole.Int {
	point := make([]whole.Int, t.size)
	copy(point, b.Low)
	for i := 0; i < t.size; i++ {
		if t.lines[i][0].Sign() < 0 {
			return point
		}
		part := whole.Div(t.lines[i][0].Neg(), t.scale)
		point[i] = whole.Sub(b.Low[i], part)
		if whole.Compare(point[i], b.High[i]) > 0 {
			point[i] = b.High[i]
			return point
		}
		over := t.rest(t.lines[i][0])
		if over.Sign() != 0 {
			return point
		}
	}
	return point
}
