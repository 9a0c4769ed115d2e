// Package simplex: how high and how low a sum of coordinates may be among all points, whole or not, at which some sums
// are at least 0. It goes from corner to corner; all numbers are exact.
package simplex

import "statute/whole"

// Table: the sums, each told by as many of them as there are coordinates. Those by which the others are told stand as
// columns. At the table's corner every column is 0.
type Table struct {
	lines   []line
	columns []int     // their names
	scale   whole.Int // above 0: each line tells so many times its sum
}

// line: the sum of this name is the first cell and each other cell times its column, all that by the table's scale.
// A name of 0 and above is that of a sum which must be at least 0; the others may be anything.
type line struct {
	name  int
	cells []whole.Int
}

// watched is the name of the sum that is to become as high as may be. (The coordinate j is named -1-j.)
const watched = -1 << 30

// New makes the table of sums that must be at least 0, of so many coordinates. Each sum has a constant ahead, then one
// factor for each coordinate. Together they must bound every coordinate from both sides.
func New(sums [][]whole.Int, size int) *Table {
	t := &Table{scale: whole.Of(1)}
	for i := 0; i < len(sums); i++ {
		t.lines = append(t.lines, line{i, sums[i]})
	}
	for j := 0; j < size; j++ {
		t.columns = append(t.columns, -1-j)
	}
	t.leaveCoordinates()
	return t
}

// leaveCoordinates puts sums in the coordinates' place as columns: the corners are where sums are 0, not coordinates.
func (t *Table) leaveCoordinates() {
	for c := 0; c < len(t.columns); c++ {
		for r := 0; r < len(t.lines); r++ {
			if t.lines[r].name >= 0 && t.cell(r, c+1).Sign() != 0 {
				t.swap(r, c)
				break
			}
		}
	}
}

// cell tells the cell of a line; a line that is too short is filled with 0.
func (t *Table) cell(r, at int) whole.Int {
	if r < 0 || r >= len(t.lines) || at < 0 || at >= len(t.lines[r].cells) {
		return whole.Int{}
	}
	return t.lines[r].cells[at]
}

// swap makes the line r a column, in place of the column c, which becomes that line. The cell of both is not 0.
func (t *Table) swap(r, c int) {
	if r < 0 || r >= len(t.lines) || c < 0 || c >= len(t.columns) {
		return
	}
	pivot := t.cell(r, c+1)
	sign := pivot.Sign()
	old := t.lines[r]
	for i := 0; i < len(t.lines); i++ {
		if i != r {
			t.lines[i].cells = t.told(i, r, c+1, sign)
		}
	}
	t.lines[r] = line{t.columns[c], t.turned(r, c+1, sign)}
	t.columns[c] = old.name
	t.scale = pivot.Abs()
}

// told tells the cells of the line i once the line r has taken the place of the column numbered c. The division has no
// rest, as all cells are determinants of the first table's.
func (t *Table) told(i, r, c, sign int) []whole.Int {
	pivot := t.cell(r, c)
	factor := t.cell(i, c)
	cells := make([]whole.Int, len(t.columns)+1)
	for j := 0; j < len(cells); j++ {
		cell := factor
		if j != c {
			a := whole.Mul(pivot, t.cell(i, j))
			b := whole.Mul(factor, t.cell(r, j))
			cell = whole.Div(whole.Sub(a, b), t.scale)
		}
		cells[j] = signed(cell, sign)
	}
	return cells
}

// turned tells the cells of the column numbered c once it has become the line r.
func (t *Table) turned(r, c, sign int) []whole.Int {
	cells := make([]whole.Int, len(t.columns)+1)
	for j := 0; j < len(cells); j++ {
		cell := t.scale
		if j != c {
			opposite := t.cell(r, j)
			cell = opposite.Neg()
		}
		cells[j] = signed(cell, sign)
	}
	return cells
}

func signed(a whole.Int, sign int) whole.Int {
	if sign < 0 {
		return a.Neg()
	}
	return a
}

// IsEmpty tells whether no point has all sums at least 0; if there is one, the table's corner becomes such a point.
// Always the least name is taken, of lines and of columns: so no corner comes twice, and the walk ends.
func (t *Table) IsEmpty() bool {
	for {
		r := t.lineBelowZero()
		if r < 0 {
			return false
		}
		c := t.columnAbove(r)
		if c < 0 {
			return true
		}
		t.swap(r, c)
	}
}

// lineBelowZero tells the line of the least name that must be at least 0 and is not at the corner, or -1.
func (t *Table) lineBelowZero() int {
	best := -1
	for r := 0; r < len(t.lines); r++ {
		constant := t.cell(r, 0)
		if t.lines[r].name >= 0 && constant.Sign() < 0 && (best < 0 || t.lines[r].name < t.lines[best].name) {
			best = r
		}
	}
	return best
}

// columnAbove tells the column of the least name that lets the line r rise, or -1.
func (t *Table) columnAbove(r int) int {
	best := -1
	for c := 0; c < len(t.columns); c++ {
		cell := t.cell(r, c+1)
		if t.columns[c] >= 0 && cell.Sign() > 0 && (best < 0 || t.columns[c] < t.columns[best]) {
			best = c
		}
	}
	return best
}

// Highest tells the greatest whole number that is not above a sum of the coordinates at its highest. IsEmpty must have
// said that the table is not empty. Some line always limits a column that rises, as the points do not go on for ever.
func (t *Table) Highest(sum []whole.Int) whole.Int {
	r := len(t.lines)
	cells := t.express(sum)
	t.lines = append(t.lines, line{watched, cells})
	for {
		c := t.columnAbove(r)
		if c < 0 {
			break
		}
		limit := t.firstToZero(c)
		if limit < 0 {
			break
		}
		t.swap(limit, c)
	}
	top := whole.Div(t.cell(r, 0), t.scale)
	t.lines = t.lines[:r]
	return top
}

// Lowest tells the least whole number that is not below a sum of the coordinates at its lowest.
func (t *Table) Lowest(sum []whole.Int) whole.Int {
	opposite := make([]whole.Int, len(sum))
	for i := 0; i < len(sum); i++ {
		opposite[i] = sum[i].Neg()
	}
	top := t.Highest(opposite)
	return top.Neg()
}

// express tells a sum of the coordinates by the columns.
func (t *Table) express(sum []whole.Int) []whole.Int {
	cells := make([]whole.Int, len(t.columns)+1)
	if len(sum) > 0 {
		cells[0] = whole.Mul(sum[0], t.scale)
	}
	for r := 0; r < len(t.lines); r++ {
		at := -t.lines[r].name
		if at > 0 && at < len(sum) {
			for j := 0; j < len(cells); j++ {
				cells[j] = whole.Add(cells[j], whole.Mul(sum[at], t.cell(r, j)))
			}
		}
	}
	return cells
}

// firstToZero tells which line is the first to become 0 when the column c rises, or -1. Of several it is the one with
// the least name.
func (t *Table) firstToZero(c int) int {
	best := -1
	for r := 0; r < len(t.lines); r++ {
		fall := t.cell(r, c+1)
		if t.lines[r].name < 0 || fall.Sign() >= 0 {
			continue
		}
		order := -1
		if best >= 0 {
			// Both falls are below 0: so the lesser one of the constants by their falls is the greater product.
			a := whole.Mul(t.cell(r, 0), t.cell(best, c+1))
			b := whole.Mul(t.cell(best, 0), fall)
			order = whole.Compare(b, a)
		}
		if order < 0 || order == 0 && t.lines[r].name < t.lines[best].name {
			best = r
		}
	}
	return best
}

// Drop forgets the sum of this number, which must be above 0 wherever the others are at least 0.
func (t *Table) Drop(name int) {
	var lines []line
	for r := 0; r < len(t.lines); r++ {
		if t.lines[r].name != name {
			lines = append(lines, t.lines[r])
		}
	}
	t.lines = lines
}
