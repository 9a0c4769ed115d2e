package least

import (
	"math/rand"
	"testing"

	"statute/api"
	"statute/solve"
	"statute/whole"
)

const many = 100000

func of(v int) whole.Int { return whole.Of(v) }

// box makes a box of ranges and rows of whole numbers.
func box(ranges []api.Range, rows [][]int) Box {
	var b Box
	for _, r := range ranges {
		b.Low = append(b.Low, of(r.Lo))
		b.High = append(b.High, of(r.Hi))
	}
	for _, list := range rows {
		row := Row{Low: of(list[0]), High: of(list[1])}
		for _, times := range list[2:] {
			row.Times = append(row.Times, of(times))
		}
		b.Rows = append(b.Rows, row)
	}
	return b
}

// holds tells whether the rows hold at a list of numbers.
func holds(rows [][]int, x []int) bool {
	for _, r := range rows {
		s := 0
		for i, times := range r[2:] {
			s += times * x[i]
		}
		if s < r[0] || s > r[1] {
			return false
		}
	}
	return true
}

// byTrying tells the least list by trying all.
func byTrying(ranges []api.Range, rows [][]int, head []int) []int {
	if len(head) == len(ranges) {
		if holds(rows, head) {
			return append([]int{}, head...)
		}
		return nil
	}
	for v := ranges[len(head)].Lo; v <= ranges[len(head)].Hi; v++ {
		if found := byTrying(ranges, rows, append(head, v)); found != nil {
			return found
		}
	}
	return nil
}

func isPoint(point []whole.Int, want []int) bool {
	for i := range want {
		if i >= len(point) || whole.Compare(point[i], of(want[i])) != 0 {
			return false
		}
	}
	return len(point) == len(want)
}

// isBelow tells whether a point is less than a list, or the same.
func isBelow(point []whole.Int, list []int) bool {
	for i := range list {
		if order := whole.Compare(point[i], of(list[i])); order != 0 {
			return order < 0
		}
	}
	return true
}

func drawn(r *rand.Rand, size, width, times int) ([]api.Range, [][]int) {
	var ranges []api.Range
	var rows [][]int
	for range size {
		lo := r.Intn(width) - width/2
		ranges = append(ranges, api.Range{Lo: lo, Hi: lo + r.Intn(width)})
	}
	for range r.Intn(5) {
		low := r.Intn(width*times) - width*times/2
		row := []int{low, low + r.Intn(width)*r.Intn(2)}
		for range size {
			row = append(row, r.Intn(2*times+1)-times)
		}
		rows = append(rows, row)
	}
	return ranges, rows
}

func TestSmallBoxes(t *testing.T) {
	r := rand.New(rand.NewSource(1))
	none := 0
	for range 6000 {
		ranges, rows := drawn(r, 1+r.Intn(4), 8, 6)
		want := byTrying(ranges, rows, nil)
		b := box(ranges, rows)
		point, state := Point(b, many)
		if want == nil {
			none++
			if state != None || point != nil {
				t.Fatalf("%v, %v = %v, %d, want none", ranges, rows, point, state)
			}
			continue
		}
		if state != Found || !isPoint(point, want) {
			t.Fatalf("%v, %v = %v, %d, want %v", ranges, rows, point, state, want)
		}
	}
	if none < 1000 || none > 5000 {
		t.Errorf("%d without a list", none)
	}
}

// A search that is given up tells a list that is not above the least one, and says none only where there is none.
func TestGivenUp(t *testing.T) {
	r := rand.New(rand.NewSource(2))
	open := 0
	for range 20000 {
		ranges, rows := drawn(r, 1+r.Intn(4), 8, 6)
		want := byTrying(ranges, rows, nil)
		point, state := Point(box(ranges, rows), r.Intn(12))
		if state == None && want != nil || state == Found && !isPoint(point, want) {
			t.Fatalf("%v, %v = %v, %d, want %v", ranges, rows, point, state, want)
		}
		for i := range point {
			if whole.Compare(point[i], of(ranges[i].Lo)) < 0 || whole.Compare(point[i], of(ranges[i].Hi)) > 0 {
				t.Fatalf("%v, %v = %v, which is outside", ranges, rows, point)
			}
		}
		if state == Open {
			open++
			if want != nil && !isBelow(point, want) {
				t.Fatalf("%v, %v = %v at least, want %v", ranges, rows, point, want)
			}
		}
	}
	if open < 300 {
		t.Errorf("%d given up", open)
	}
}

// Wide boxes, held against package solve.
func TestWideBoxes(t *testing.T) {
	r := rand.New(rand.NewSource(3))
	settled := 0
	for range 1500 {
		ranges, rows := drawn(r, 1+r.Intn(4), 100000000, 20)
		var list []api.Row
		for _, row := range rows {
			opposite := make([]int, len(ranges))
			for i, times := range row[2:] {
				opposite[i] = -times
			}
			list = append(list, api.Row{C: row[2:], K: -row[0]}, api.Row{C: opposite, K: row[1]})
		}
		want, found, errno := solve.Least(ranges, list)
		if errno != api.OK {
			t.Fatal(errno)
		}
		point, state := Point(box(ranges, rows), 300)
		if state == None && found || state == Found && (!found || !isPoint(point, want)) {
			t.Fatalf("%v, %v = %v, %d, want %v", ranges, rows, point, state, want)
		}
		if state != Open {
			settled++
		} else if found && !isBelow(point, want) {
			t.Fatalf("%v, %v = %v at least, want %v", ranges, rows, point, want)
		}
	}
	if settled < 1000 {
		t.Errorf("only %d settled", settled)
	}
}

// Rounded numbers: x by 100 and x + 49 by 100 differ by 1, each with its rest.
func TestRoundedNumbers(t *testing.T) {
	ranges := []api.Range{{Lo: -1000000000, Hi: 1000000000}, {Lo: -10000000, Hi: 10000000}, {Lo: -10000000, Hi: 10000000}}
	rows := [][]int{{-50, 49, 1, -100, 0}, {-49, 50, 1, 0, -100}, {1, 1, 0, 1, -1}}
	point, state := Point(box(ranges, rows), many)
	if state != Found || !isPoint(point, []int{-999999950, -9999999, -10000000}) {
		t.Errorf("%v, %d", point, state)
	}
}

func TestNoNumbers(t *testing.T) {
	point, state := Point(Box{}, many)
	if state != Found || len(point) != 0 {
		t.Errorf("%v, %d", point, state)
	}
	if _, state := Point(box([]api.Range{{Lo: 1, Hi: 0}}, nil), many); state != None {
		t.Errorf("an empty range: %d", state)
	}
}

func TestNothingHandedInIsWritten(t *testing.T) {
	ranges := []api.Range{{Lo: 0, Hi: 9}, {Lo: 0, Hi: 9}}
	rows := [][]int{{7, 7, 1, 1}, {2, 100, 1, -1}}
	b := box(ranges, rows)
	for range 2 {
		point, state := Point(b, many)
		if state != Found || !isPoint(point, []int{5, 2}) {
			t.Errorf("%v, %d", point, state)
		}
	}
	if whole.Compare(b.Low[0], of(0)) != 0 || whole.Compare(b.High[1], of(9)) != 0 {
		t.Errorf("%v", b)
	}
}
