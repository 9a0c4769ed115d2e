package simplex

import (
	"math/big"
	"math/rand"
	"slices"
	"testing"

	"statute/whole"
)

// sum makes a sum of a constant and factors.
func sum(list ...int) []whole.Int {
	out := make([]whole.Int, len(list))
	for i, v := range list {
		out[i] = whole.Of(v)
	}
	return out
}

func sums(lists ...[]int) [][]whole.Int {
	var out [][]whole.Int
	for _, l := range lists {
		out = append(out, sum(l...))
	}
	return out
}

type reach struct {
	sum       []int
	low, high int
}

func tryReach(t *testing.T, table *Table, list []reach) {
	t.Helper()
	for _, r := range list {
		low, _ := table.Lowest(sum(r.sum...)).Small()
		high, _ := table.Highest(sum(r.sum...)).Small()
		if low != r.low || high != r.high {
			t.Errorf("%v goes from %d to %d, want %d to %d", r.sum, low, high, r.low, r.high)
		}
	}
}

func TestBox(t *testing.T) {
	table := New(sums([]int{0, 1, 0}, []int{9, -1, 0}, []int{5, 0, 1}, []int{-2, 0, -1}), 2)
	if table.IsEmpty() {
		t.Fatal("a box is empty")
	}
	tryReach(t, table, []reach{
		{[]int{0, 1, 0}, 0, 9}, {[]int{0, 0, 1}, -5, -2}, {[]int{0, 1, 1}, -5, 7}, {[]int{0, 1, -1}, 2, 14},
		{[]int{100, -3, 2}, 63, 96}, {[]int{7, 0, 0}, 7, 7}, {[]int{0, 0, 0}, 0, 0},
	})
}

// What lies between whole numbers is told by the whole numbers within.
func TestBrokenCorners(t *testing.T) {
	table := New(sums([]int{-1, 3, 0}, []int{8, -3, 0}, []int{7, -2, -2}, []int{1, 0, 2}), 2)
	if table.IsEmpty() {
		t.Fatal("it is not empty")
	}
	// The first is from 1/3 to 8/3, the second from -1/2 to 7/2 less the first.
	tryReach(t, table, []reach{
		{[]int{0, 1, 0}, 1, 2}, {[]int{0, 0, 1}, 0, 3}, {[]int{0, 3, 0}, 1, 8}, {[]int{0, 1, 1}, 0, 3}, {[]int{0, 2, 2}, 0, 7},
	})
}

func TestEmpty(t *testing.T) {
	for _, list := range [][][]int{
		{{-1, 1}, {0, -1}},
		{{0, 1, 0}, {9, -1, 0}, {0, 0, 1}, {9, 0, -1}, {-19, 1, 1}},
		{{0, 1, 0}, {9, -1, 0}, {0, 0, 1}, {9, 0, -1}, {-1, 1, -1}, {0, -1, 1}},
		{{0, 1}, {5, -1}, {-1, 0}},
		{{-1, 0}, {0, 1}, {5, -1}},
	} {
		if !New(sums(list...), len(list[0])-1).IsEmpty() {
			t.Errorf("%v is not empty", list)
		}
	}
}

// A region that is a single point or a line, with more sums than it needs: many corners are the same.
func TestFlat(t *testing.T) {
	table := New(sums([]int{-4, 1, 0}, []int{4, -1, 0}, []int{-8, 2, 0}, []int{0, 1, 1}, []int{0, 1, -1}, []int{12, -3, 0}, []int{8, -1, -1}), 2)
	if table.IsEmpty() {
		t.Fatal("a line is empty")
	}
	tryReach(t, table, []reach{{[]int{0, 1, 0}, 4, 4}, {[]int{0, 0, 1}, -4, 4}, {[]int{0, 1, 1}, 0, 8}})
}

func TestDrop(t *testing.T) {
	list := sums([]int{0, 1}, []int{5, -1}, []int{9, -1}, []int{-7, 1})
	table := New(list[:3], 1)
	if table.IsEmpty() {
		t.Fatal("it is empty")
	}
	table.Drop(2)
	if len(table.lines)+len(table.columns) != 3 {
		t.Errorf("%d lines beside %d columns", len(table.lines), len(table.columns))
	}
	tryReach(t, table, []reach{{[]int{0, 1}, 0, 5}})
}

// Nobody asks about points that go on for ever, or about sums that are cut short; but there is an end to it.
func TestStrayTables(t *testing.T) {
	table := New(sums([]int{0, 1, 0}, []int{3, 0, 1}, []int{7, -1}), 2)
	if table.IsEmpty() {
		t.Error("a quarter of everything is empty")
	}
	table.Highest(sum(0, 0, 1))
	table.Highest(nil)
	tryReach(t, table, []reach{{[]int{0, 1, 0}, 0, 7}, {[]int{5}, 5, 5}})
	if New(nil, 2).IsEmpty() || New(nil, 0).IsEmpty() {
		t.Error("everything is empty")
	}
	table.swap(-1, 0)
	table.swap(0, -1)
	table.swap(9, 0)
	table.swap(0, 9)
}

// corner solves that the sums of the given numbers are 0, by fractions; nil if that is no single point.
func corner(list [][]int, pick []int) []*big.Rat {
	n := len(pick)
	m := make([][]*big.Rat, n)
	for i, p := range pick {
		for j := range n {
			m[i] = append(m[i], big.NewRat(int64(list[p][j+1]), 1))
		}
		m[i] = append(m[i], big.NewRat(int64(-list[p][0]), 1))
	}
	for c := range n {
		r := c
		for r < n && m[r][c].Sign() == 0 {
			r++
		}
		if r == n {
			return nil
		}
		m[r], m[c] = m[c], m[r]
		for i := range n {
			if i == c {
				continue
			}
			f := new(big.Rat).Quo(m[i][c], m[c][c])
			for j := range m[i] {
				m[i][j] = new(big.Rat).Sub(m[i][j], new(big.Rat).Mul(f, m[c][j]))
			}
		}
	}
	point := make([]*big.Rat, n)
	for i := range n {
		point[i] = new(big.Rat).Quo(m[i][n], m[i][i])
	}
	return point
}

func valueAt(s []int, point []*big.Rat) *big.Rat {
	v := big.NewRat(int64(s[0]), 1)
	for i, p := range point {
		v.Add(v, new(big.Rat).Mul(big.NewRat(int64(s[i+1]), 1), p))
	}
	return v
}

// corners tells all points at which as many sums as there are coordinates are 0 and none is below 0.
func corners(list [][]int, n int) [][]*big.Rat {
	var out [][]*big.Rat
	pick := make([]int, n)
	var walk func(at, from int)
	walk = func(at, from int) {
		if at == n {
			point := corner(list, pick)
			below := func(s []int) bool { return valueAt(s, point).Sign() < 0 }
			if point != nil && !slices.ContainsFunc(list, below) {
				out = append(out, point)
			}
			return
		}
		for i := from; i < len(list); i++ {
			pick[at] = i
			walk(at+1, i+1)
		}
	}
	walk(0, 0)
	return out
}

func floorOf(r *big.Rat) int {
	q := new(big.Int).Div(r.Num(), r.Denom())
	return int(q.Int64())
}

// drawn makes a box and some sums more.
func drawn(r *rand.Rand, n, size int) [][]int {
	var list [][]int
	for j := range n {
		a := make([]int, n+1)
		b := make([]int, n+1)
		a[0], a[j+1] = r.Intn(2*size), 1
		b[0], b[j+1] = r.Intn(2*size), -1
		list = append(list, a, b)
	}
	for range r.Intn(6) {
		s := make([]int, n+1)
		s[0] = r.Intn(20*size) - 5*size
		for j := range n {
			s[j+1] = r.Intn(41) - 20
		}
		list = append(list, s)
	}
	r.Shuffle(len(list), func(i, j int) { list[i], list[j] = list[j], list[i] })
	return list
}

// The greatest and the least are at corners: so all of them are looked at.
func TestDrawn(t *testing.T) {
	r := rand.New(rand.NewSource(3))
	empty := 0
	for k := range 400 {
		n := 1 + k%4
		list := drawn(r, n, 1+r.Intn(1000))
		all := corners(list, n)
		table := New(sums(list...), n)
		if table.IsEmpty() != (len(all) == 0) {
			t.Fatalf("%v: %d corners", list, len(all))
		}
		if len(all) == 0 {
			empty++
			continue
		}
		var wanted []reach
		for range 4 {
			s := make([]int, n+1)
			for j := range s {
				s[j] = r.Intn(2001) - 1000
			}
			low, high := valueAt(s, all[0]), valueAt(s, all[0])
			for _, c := range all {
				v := valueAt(s, c)
				if v.Cmp(low) < 0 {
					low = v
				}
				if v.Cmp(high) > 0 {
					high = v
				}
			}
			wanted = append(wanted, reach{s, -floorOf(new(big.Rat).Neg(low)), floorOf(high)})
		}
		tryReach(t, table, wanted)
	}
	if empty < 20 || empty > 500 {
		t.Errorf("%d of the regions are empty", empty)
	}
}

func TestNothingHandedInIsWritten(t *testing.T) {
	list := sums([]int{0, 1, 0}, []int{9, -1, 0}, []int{5, 0, 1}, []int{-2, 0, -1}, []int{-3, 2, 2})
	want := sums([]int{0, 1, 0}, []int{9, -1, 0}, []int{5, 0, 1}, []int{-2, 0, -1}, []int{-3, 2, 2})
	asked := sum(1, 2, 3)
	table := New(list, 2)
	table.IsEmpty()
	table.Highest(asked)
	table.Lowest(asked)
	for i := range list {
		for j := range list[i] {
			if whole.Compare(list[i][j], want[i][j]) != 0 {
				t.Fatalf("sum %d was written into", i)
			}
		}
	}
	for i, v := range []int{1, 2, 3} {
		if whole.Compare(asked[i], whole.Of(v)) != 0 {
			t.Fatal("the sum that is asked for was written into")
		}
	}
}
