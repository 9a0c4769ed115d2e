package solve

import (
	"fmt"
	"math/rand"
	"slices"
	"testing"

	"statute/api"
)

const most = api.MaxNumber

func to(lo, hi int) api.Range       { return api.Range{Lo: lo, Hi: hi} }
func least(k int, c ...int) api.Row { return api.Row{C: c, K: k} }
func zero(k int, c ...int) api.Row  { return api.Row{C: c, K: k, Equal: true} }

func same(a, b []int, found bool) bool {
	return found == (b != nil) && slices.Equal(a, b)
}

func try(t *testing.T, vars []api.Range, rows []api.Row, want []int) {
	t.Helper()
	got, found, errno := Least(vars, rows)
	if errno != api.OK || !same(got, want, found) {
		t.Fatalf("Least(%v, %v) = %v, %v, %d, want %v", vars, rows, got, found, errno, want)
	}
}

func valueAt(row api.Row, x []int) int {
	sum := row.K
	for i, c := range row.C {
		sum += c * x[i]
	}
	return sum
}

func holds(rows []api.Row, x []int) bool {
	for _, row := range rows {
		v := valueAt(row, x)
		if v < 0 || row.Equal && v != 0 {
			return false
		}
	}
	return true
}

func isHome(vars []api.Range, x []int) bool {
	for i, v := range vars {
		if x[i] < v.Lo || x[i] > v.Hi {
			return false
		}
	}
	return true
}

// factors draws numbers up to so great, of both signs.
func factors(r *rand.Rand, n, great int) []int {
	list := make([]int, n)
	for i := range list {
		list[i] = r.Intn(2*great+1) - great
	}
	return list
}

func opposed(list []int) []int {
	out := make([]int, len(list))
	for i := range list {
		out[i] = -list[i]
	}
	return out
}

// byTrying looks at all lists, the least ahead.
func byTrying(vars []api.Range, rows []api.Row) []int {
	x := make([]int, len(vars))
	for i := range vars {
		x[i] = vars[i].Lo
	}
	for {
		if holds(rows, x) {
			return x
		}
		i := len(x) - 1
		for i >= 0 && x[i] == vars[i].Hi {
			x[i] = vars[i].Lo
			i--
		}
		if i < 0 {
			return nil
		}
		x[i]++
	}
}

func TestNarrow(t *testing.T) {
	r := rand.New(rand.NewSource(11))
	found := 0
	for k := range 3000 {
		n := 1 + k%4
		var vars []api.Range
		for range n {
			lo := r.Intn(12) - 6
			vars = append(vars, to(lo, lo+r.Intn(6)))
		}
		var rows []api.Row
		great := 1 + r.Intn(9)
		for range r.Intn(api.MaxRows + 1) {
			rows = append(rows, api.Row{C: factors(r, n, great), K: r.Intn(8*great) - 2*great, Equal: r.Intn(6) == 0})
		}
		want := byTrying(vars, rows)
		if want != nil {
			found++
		}
		try(t, vars, rows, want)
	}
	if found < 600 || found > 2400 {
		t.Errorf("%d of 3000 have numbers", found)
	}
}

// span: the whole numbers t from lo to hi for which the rows hold at from + t*step.
func span(vars []api.Range, rows []api.Row, from, step []int) (int, int) {
	lo, hi := -1<<50, 1<<50
	limit := func(k, c int) { // k + c*t is at least 0
		switch {
		case c > 0:
			lo = max(lo, -floorOf(k, c))
		case c < 0:
			hi = min(hi, floorOf(k, -c))
		case k < 0:
			hi = lo - 1
		}
	}
	for i, v := range vars {
		limit(from[i]-v.Lo, step[i])
		limit(v.Hi-from[i], -step[i])
	}
	for _, row := range rows {
		k := valueAt(row, from)
		c := valueAt(api.Row{C: row.C}, step)
		limit(k, c)
		if row.Equal {
			limit(-k, -c)
		}
	}
	return lo, hi
}

func floorOf(a, d int) int {
	q := a / d
	if a%d < 0 {
		q--
	}
	return q
}

func at(from, step []int, times int) []int {
	x := make([]int, len(from))
	for i := range x {
		x[i] = from[i] + times*step[i]
	}
	return x
}

// lesser keeps the lesser one of a list that was found and the ends of a line.
func lesser(best []int, vars []api.Range, rows []api.Row, from, step []int) []int {
	lo, hi := span(vars, rows, from, step)
	if lo > hi {
		return best
	}
	for _, x := range [][]int{at(from, step, lo), at(from, step, hi)} {
		if best == nil || slices.Compare(x, best) < 0 {
			best = x
		}
	}
	return best
}

// One number may be anything, the others are tried one by one.
func TestOneIsWide(t *testing.T) {
	r := rand.New(rand.NewSource(12))
	found := 0
	for k := range 1000 {
		n := 2 + k%3
		wide := r.Intn(n)
		var vars []api.Range
		point := make([]int, n)
		for i := range n {
			lo := r.Intn(2*most) - most
			v := to(lo, min(most, lo+r.Intn(80)/(n-1)))
			if i == wide {
				v = to(-most+r.Intn(9), most-r.Intn(9))
			}
			vars = append(vars, v)
			point[i] = v.Lo + r.Intn(v.Hi-v.Lo+1)
		}
		rows := through(r, point, 1+r.Intn(api.MaxRows), 1000)
		step := make([]int, n)
		step[wide] = 1
		var best []int
		others := slices.Clone(vars)
		others[wide] = to(0, 0)
		from := make([]int, n)
		for i := range from {
			from[i] = others[i].Lo
		}
		for from != nil {
			best = lesser(best, vars, rows, from, step)
			from = next(others, from)
		}
		if best != nil {
			found++
		}
		try(t, vars, rows, best)
	}
	if found < 200 || found > 900 {
		t.Errorf("%d of 1000 have numbers", found)
	}
}

// through makes rows that nearly hold at a point, or just do.
func through(r *rand.Rand, point []int, n, great int) []api.Row {
	var rows []api.Row
	for len(rows) < n {
		row := api.Row{C: factors(r, len(point), great), Equal: r.Intn(9) == 0}
		row.K = r.Intn(40*great) - great - valueAt(row, point)
		if row.Equal {
			row.K = -valueAt(row, point)
		}
		if row.K >= -api.MaxConst && row.K <= api.MaxConst {
			rows = append(rows, row)
		}
	}
	return rows
}

// next tells the next list from the ranges, or nil.
func next(vars []api.Range, x []int) []int {
	out := slices.Clone(x)
	for i := len(x) - 1; i >= 0; i-- {
		if out[i] < vars[i].Hi {
			out[i]++
			return out
		}
		out[i] = vars[i].Lo
	}
	return nil
}

// turn makes steps which reach every whole point, and the sums that count them: a matrix and its opposite, both drawn.
func turn(r *rand.Rand, n int) ([][]int, [][]int) {
	for {
		counts := make([][]int, n)
		steps := make([][]int, n) // as columns
		for i := range n {
			counts[i] = make([]int, n)
			steps[i] = make([]int, n)
			counts[i][i], steps[i][i] = 1, 1
		}
		for range 2 + r.Intn(12) {
			i, j, f := r.Intn(n), r.Intn(n), r.Intn(15)-7
			if i == j {
				continue
			}
			for l := range n {
				counts[i][l] += f * counts[j][l]
				steps[l][j] -= f * steps[l][i]
			}
		}
		great := 0
		for i := range n {
			great = max(great, slices.Max(counts[i]), -slices.Min(counts[i]), slices.Max(steps[i]), -slices.Min(steps[i]))
		}
		if great <= api.MaxTimes {
			return counts, steps
		}
	}
}

// All numbers are wide, but a needle is cut out of them: all sums but one that count the steps are held within a few
// numbers. The points of the needle lie on lines along the one step that is left.
func TestNeedles(t *testing.T) {
	r := rand.New(rand.NewSource(13))
	found := 0
	for k := range 600 {
		n := 2 + k%3
		counts, steps := turn(r, n)
		point := factors(r, n, most/20)
		var vars, slab []api.Range
		for i := range n {
			vars = append(vars, to(max(-most, point[i]-r.Intn(most)), min(most, point[i]+r.Intn(most))))
		}
		var rows []api.Row
		for i := range n - 1 {
			w := r.Intn(6)
			k := -valueAt(api.Row{C: counts[i]}, point)
			rows = append(rows, least(k, counts[i]...), least(w-k, opposed(counts[i])...))
			slab = append(slab, to(0, w))
		}
		rows = append(rows, through(r, point, r.Intn(3), 1000)...)
		step := make([]int, n)
		for i := range n {
			step[i] = steps[i][n-1]
		}
		var best []int
		for y := make([]int, n-1); y != nil; y = next(slab, y) {
			from := slices.Clone(point)
			for i := range n {
				for j := range y {
					from[i] += steps[i][j] * y[j]
				}
			}
			best = lesser(best, vars, rows, from, step)
		}
		if best != nil {
			found++
		}
		try(t, vars, rows, best)
	}
	if found < 200 || found > 580 {
		t.Errorf("%d of 600 have numbers", found)
	}
}

// Where nothing else can tell the answer: it holds, and nothing that is less does, which is asked in other words.
func TestWide(t *testing.T) {
	r := rand.New(rand.NewSource(14))
	for k := range 300 {
		n := 2 + k%3
		vars := slices.Repeat([]api.Range{to(-most, most)}, n)
		point := factors(r, n, most/10)
		great := []int{3, 30, 1000}[r.Intn(3)]
		rows := wideRows(r, point, k%4, great)
		got, found, errno := Least(vars, rows)
		if errno != api.OK || found && (!holds(rows, got) || !isHome(vars, got)) || !found && holds(rows, point) {
			t.Fatalf("Least(%v, %v) = %v, %v, %d beside %v", vars, rows, got, found, errno, point)
		}
		for i := range got {
			less := slices.Clone(vars)
			for j := range i {
				less[j] = to(got[j], got[j])
			}
			less[i].Hi = got[i] - 1
			if less[i].Lo <= less[i].Hi {
				slices.Reverse(rows)
				try(t, less, rows, nil)
			}
		}
	}
}

// wideRows makes slabs, rows that are 0, a small corner, or any rows, all about a point.
func wideRows(r *rand.Rand, point []int, shape, great int) []api.Row {
	n := len(point)
	var rows []api.Row
	switch shape {
	case 0:
		for range 1 + r.Intn(4) {
			c := factors(r, n, great)
			k := r.Intn(great) - valueAt(api.Row{C: c}, point)
			rows = append(rows, least(k, c...), least(r.Intn(12)-k, opposed(c)...))
		}
	case 1:
		for range 1 + r.Intn(n) {
			c := factors(r, n, great)
			rows = append(rows, zero(-valueAt(api.Row{C: c}, point), c...))
		}
	case 2:
		last := make([]int, n)
		for range n {
			c := factors(r, n, great/n)
			for i := range n {
				last[i] -= c[i]
			}
			rows = append(rows, least(r.Intn(great)-valueAt(api.Row{C: c}, point), c...))
		}
		rows = append(rows, least(r.Intn(great)-valueAt(api.Row{C: last}, point), last...))
	default:
		rows = through(r, point, api.MaxRows, great)
	}
	return rows
}

// Sums of coins: which amounts can be paid, and the least list of coins for it.
func TestCoins(t *testing.T) {
	coins := []int{97, 101, 113, 127}
	vars := slices.Repeat([]api.Range{to(0, most)}, 4)
	narrow := slices.Repeat([]api.Range{to(0, 12)}, 4)
	unpaid := 0
	for amount := 0; amount < 1100; amount += 3 {
		rows := []api.Row{zero(-amount, coins...)}
		want := byTrying(narrow, rows)
		if want == nil {
			unpaid++
		}
		try(t, vars, rows, want)
	}
	if unpaid < 100 || unpaid > 360 {
		t.Errorf("%d amounts cannot be paid", unpaid)
	}
}

// The greatest numbers that may be handed in, at every sign.
func TestGreatest(t *testing.T) {
	full := to(-most, most)
	for _, c := range []int{api.MaxTimes, -api.MaxTimes} {
		for _, k := range []int{api.MaxConst, -api.MaxConst} {
			want := -k / c
			try(t, []api.Range{full}, []api.Row{zero(k, c)}, []int{want})
			vars := []api.Range{full, full, full, full}
			rows := []api.Row{least(k, c, c, c, c), least(-k, c, c, c, c)}
			got, found, errno := Least(vars, rows)
			if errno != api.OK || !found || !holds(rows, got) {
				t.Errorf("Least(%v) = %v, %v, %d", rows, got, found, errno)
			}
		}
	}
	four := []api.Range{full, full, full, full}
	try(t, four, []api.Row{least(-api.MaxConst, 1000, 1000, 1000, 1000)}, []int{-most, 0, most, most})
	try(t, four, []api.Row{least(-api.MaxConst, -1000, -1000, -1000, -1000)}, []int{-most, -most, -most, -most})
	try(t, four, []api.Row{zero(1, 1000, 998, 996, 994)}, nil)
	try(t, four, []api.Row{zero(-api.MaxConst, 1, 0, 0, 0)}, nil)
}

// Regions that are long, and empty of whole points all along.
func TestNoPointBetween(t *testing.T) {
	full := to(-most, most)
	// The sum is even, but must be 1, or a number of thirds, but must be 1 or 2.
	try(t, []api.Range{full, full}, []api.Row{least(-1, 998, -1000), least(1, -998, 1000)}, nil)
	try(t, []api.Range{full, full}, []api.Row{least(-1, 3, -999), least(2, -3, 999)}, nil)
	// A triangle of corners (0, 1/2), (1000, 1/2) and (500, 0), without its lower tip.
	try(t, []api.Range{full, full}, []api.Row{least(1, 0, -2), least(-1, 0, 500), least(0, 1, 1000)}, nil)
	// Two sums that are at a point each only in fractions of it.
	try(t, []api.Range{full, full, full}, []api.Row{zero(-1, 2, 2, 1), zero(-2, 2, 2, 3)}, nil)
}

func ExampleLeast() {
	fmt.Println(Least([]api.Range{to(0, 9), to(0, 9)}, []api.Row{zero(-7, 1, 1), least(-2, 1, -1)}))
	// Output: [5 2] true 0
}
