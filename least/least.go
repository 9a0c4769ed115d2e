// Package least: the least list of whole numbers within ranges at which sums of them stay within ranges too. It goes from
// corner to corner upwards, and cuts off the corners that are not whole, as Gomory did.
package least

import "statute/whole"

// Row: the sum of Times[i] times the number i is from Low to High.
type Row struct {
	Times     []whole.Int
	Low, High whole.Int
}

// Box: the ranges of the numbers, and the rows that hold.
type Box struct {
	Low, High []whole.Int
	Rows      []Row
}

// State says what is known of the least list.
type State int

const (
	None  State = iota // there is no list
	Found              // this is it
	Open               // there is none that is less than this one; whether there is any is not known
)

// Point tells the least list of a box. Most is how many corners it goes to at most; if that does not settle it, it tells
// a list within the ranges from which on there may be one.
func Point(b Box, most int) ([]whole.Int, State) {
	b = copied(b)
	if !narrowed(&b) {
		return nil, None
	}
	t := tableOf(b)
	state := t.climb(most)
	if state == None {
		return nil, None
	}
	return t.corner(b), state
}

func copied(b Box) Box {
	low := make([]whole.Int, len(b.Low))
	copy(low, b.Low)
	high := make([]whole.Int, len(b.High))
	copy(high, b.High)
	return Box{low, high, b.Rows}
}

// rounds: narrowing may go on and on by ever less; the corners do the rest.
const rounds = 3

// narrowed narrows the ranges of a box by its rows, as far as each row alone tells; false if there is no list.
func narrowed(b *Box) bool {
	for i := 0; i < len(b.Low); i++ {
		if whole.Compare(b.Low[i], b.High[i]) > 0 {
			return false
		}
	}
	for round := 0; round < rounds; round++ {
		changed := false
		for i := 0; i < len(b.Rows); i++ {
			more, ok := b.narrowBy(b.Rows[i])
			if !ok {
				return false
			}
			changed = changed || more
		}
		if !changed {
			return true
		}
	}
	return true
}

// narrowBy narrows the ranges by one row. It tells whether any was changed, and whether none is empty.
func (b *Box) narrowBy(row Row) (bool, bool) {
	low, high := b.reach(row)
	if whole.Compare(high, row.Low) < 0 || whole.Compare(low, row.High) > 0 {
		return false, false
	}
	if whole.Compare(low, row.Low) >= 0 && whole.Compare(high, row.High) <= 0 {
		return false, true
	}
	changed := false
	for i := 0; i < len(row.Times); i++ {
		times := row.Times[i]
		if times.Sign() == 0 {
			continue
		}
		least := whole.Mul(times, b.Low[i])
		most := whole.Mul(times, b.High[i])
		if times.Sign() < 0 {
			least, most = most, least
		}
		// What the row leaves for this number, where the others do their best.
		from := whole.Add(whole.Sub(row.Low, high), most)
		to := whole.Add(whole.Sub(row.High, low), least)
		if b.limit(i, times, from, to) {
			changed = true
		}
		if whole.Compare(b.Low[i], b.High[i]) > 0 {
			return changed, false
		}
	}
	return changed, true
}

// reach tells how low and how high a row's sum may be.
func (b *Box) reach(row Row) (whole.Int, whole.Int) {
	var low, high whole.Int
	for i := 0; i < len(row.Times); i++ {
		x := whole.Mul(row.Times[i], b.Low[i])
		y := whole.Mul(row.Times[i], b.High[i])
		if row.Times[i].Sign() < 0 {
			x, y = y, x
		}
		low = whole.Add(low, x)
		high = whole.Add(high, y)
	}
	return low, high
}

// limit narrows the range of the number i, so many times which is from one number to another one.
func (b *Box) limit(i int, times, from, to whole.Int) bool {
	if times.Sign() < 0 {
		times = times.Neg()
		opposite := from.Neg()
		from = to.Neg()
		to = opposite
	}
	low := whole.Div(from.Neg(), times).Neg()
	high := whole.Div(to, times)
	changed := false
	if whole.Compare(low, b.Low[i]) > 0 {
		b.Low[i] = low
		changed = true
	}
	if whole.Compare(high, b.High[i]) < 0 {
		b.High[i] = high
		changed = true
	}
	return changed
}
