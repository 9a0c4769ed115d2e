package statute_test

import (
	"slices"
	"testing"

	"statute/api"
	"statute/statute"
)

type run struct {
	s    string
	home []int
	want []int
}

func tryRuns(t *testing.T, list []run) {
	t.Helper()
	for _, c := range list {
		got, errno := statute.RunHigh(c.s, c.home)
		if !slices.Equal(got, c.want) || errno != api.OK {
			t.Errorf("P5: RunHigh(%.80q, %v) = %v, %d, want %v", c.s, c.home, got, errno, c.want)
		}
	}
}

func rounded(d string) string {
	return "in x -20 20 out a div down x " + d + " out b div up x " + d + " out c div zero x " + d + " out d div near x " + d
}

const (
	brackets = "in x 0 1000 out t tab x 3 100 10 300 20 700 30"
	children = "in x 0 9 in k 0 3 let f mul 2 k out y if or lt x f eq k 3 0 sub x f"
)

func TestP5Examples(t *testing.T) {
	tryRuns(t, []run{
		{rounded("3"), []int{-8}, []int{-3, -2, -2, -3}},
		{rounded("3"), []int{8}, []int{2, 3, 2, 3}},
		{rounded("3"), []int{-9}, []int{-3, -3, -3, -3}},
		{rounded("2"), []int{-3}, []int{-2, -1, -1, -1}},
		{rounded("2"), []int{3}, []int{1, 2, 1, 2}},
		{brackets, []int{50}, []int{0}},
		{brackets, []int{100}, []int{0}},
		{brackets, []int{150}, []int{500}},
		{brackets, []int{300}, []int{2000}},
		{brackets, []int{500}, []int{6000}},
		{brackets, []int{1000}, []int{19000}},
		{children, []int{5, 1}, []int{3}},
		{children, []int{1, 1}, []int{0}},
		{children, []int{9, 3}, []int{0}},
	})
}

func TestP5Rounding(t *testing.T) {
	most := api.MaxValue
	tryRuns(t, []run{
		{rounded("1"), []int{-20}, []int{-20, -20, -20, -20}},
		{rounded("7"), []int{0}, []int{0, 0, 0, 0}},
		{rounded("7"), []int{3}, []int{0, 1, 0, 0}},
		{rounded("7"), []int{4}, []int{0, 1, 0, 1}},
		{rounded("7"), []int{-3}, []int{-1, 0, 0, 0}},
		{rounded("7"), []int{-4}, []int{-1, 0, 0, -1}},
		{rounded("4"), []int{-2}, []int{-1, 0, 0, 0}},
		{rounded("4"), []int{2}, []int{0, 1, 0, 1}},
		{rounded("1000000"), []int{-1}, []int{-1, 0, 0, 0}},
		{rounded("1000000"), []int{1}, []int{0, 1, 0, 0}},
		{"in x -1000000000 1000000000 let a mul 1000 mul 1000 x out d div down a 999999 out u div up a 999999 out z div zero a 999999 out n div near a 999999",
			[]int{-1000000000}, []int{-most/999999 - 1, -most / 999999, -most / 999999, -most / 999999}},
	})
}

func TestP5Tables(t *testing.T) {
	below := "in x -9 9 out t tab x 2 -5 -1 5 3"
	tryRuns(t, []run{
		{below, []int{-9}, []int{0}}, {below, []int{-5}, []int{0}}, {below, []int{-4}, []int{-1}}, {below, []int{0}, []int{-5}},
		{below, []int{5}, []int{-10}}, {below, []int{6}, []int{-7}}, {below, []int{9}, []int{2}},
		{"in x 0 9 out t tab x 1 3 -1000", []int{3}, []int{0}}, {"in x 0 9 out t tab x 1 3 -1000", []int{9}, []int{-6000}},
		{"in x 0 9 out t tab add x x 6 1 1 2 2 3 3 4 4 5 5 6 6", []int{4}, []int{1 + 2 + 3 + 4 + 5 + 12}},
		{brackets, []int{0}, []int{0}}, {brackets, []int{101}, []int{10}}, {brackets, []int{301}, []int{2020}}, {brackets, []int{700}, []int{10000}}, {brackets, []int{701}, []int{10030}},
	})
}

func TestP5Operations(t *testing.T) {
	pair := "in x -9 9 in y -9 9 "
	sums := pair + "out a add x y out b sub x y out c min x y out d max x y"
	signs := pair + "out a if lt x y 1 0 out b if le x y 1 0 out c if eq x y 1 0 out d mul -7 x"
	logic := pair + "out a if and lt x 0 lt y 0 1 0 out b if or lt x 0 lt y 0 1 0 out c if not lt x 0 1 0 out d if not or and lt x 0 lt y 0 eq x y 1 0"
	tryRuns(t, []run{
		{sums, []int{3, 5}, []int{8, -2, 3, 5}}, {sums, []int{5, 3}, []int{8, 2, 3, 5}}, {sums, []int{-5, -5}, []int{-10, 0, -5, -5}},
		{signs, []int{3, 5}, []int{1, 1, 0, -21}}, {signs, []int{5, 5}, []int{0, 1, 1, -35}}, {signs, []int{5, -3}, []int{0, 0, 0, -35}},
		{logic, []int{-1, -2}, []int{1, 1, 0, 0}}, {logic, []int{-1, 2}, []int{0, 1, 0, 1}}, {logic, []int{1, -2}, []int{0, 1, 1, 1}}, {logic, []int{1, 2}, []int{0, 0, 1, 1}}, {logic, []int{1, 1}, []int{0, 0, 1, 0}},
		{one + "let a add x 1 let b mul -3 a let c sub a b out p c out q 7 out r x", []int{4}, []int{20, 7, 4}},
		{sum(296), []int{9}, []int{9 * 297}}, {lets(16), []int{3}, []int{3}}, {inputs(4), []int{1, 2, 3, 4}, []int{1}},
		{"in a 0 9 in b 0 9 in c 0 9 in d 0 9 out s d out t c out u b out v a", []int{1, 2, 3, 4}, []int{4, 3, 2, 1}},
		{"in x -1000000000 1000000000 out y mul 1000 mul -1000 x", []int{-1000000000}, []int{api.MaxValue}},
		{taxes, []int{0, 0, 0}, []int{0, 0, 0}},
		// base 98200, tax 14 of 50000 and 42 of 38200, by 100: 23044, aid 300
		{taxes, []int{100000, 2, 900}, []int{22744, 300, 10993}},
	})
}

func TestP5ErrHome(t *testing.T) {
	for _, home := range [][]int{
		nil, {}, {5}, {5, 1, 0}, {10, 1}, {-1, 1}, {5, 4}, {5, -1}, {1 << 40, 1}, {5, 1<<63 - 1}, {-1 << 63, 1}, {5, 1, 5, 1, 5},
	} {
		got, errno := statute.RunHigh(children, home)
		if len(got) != 0 || errno != api.ErrHome {
			t.Errorf("P5: RunHigh for %v = %v, %d, want ErrHome", home, got, errno)
		}
	}
	for _, home := range [][]int{{0, 0}, {9, 0}, {0, 3}, {9, 3}} {
		if _, errno := statute.RunHigh(children, home); errno != api.OK {
			t.Errorf("P5: the household %v at the edges: %d", home, errno)
		}
	}
	if _, errno := statute.RunHigh("in x -7 -7 out y x", []int{-8}); errno != api.ErrHome {
		t.Errorf("P5: a household beside the only one: %d", errno)
	}
}

func TestP5TellsTheErrorOfCheck(t *testing.T) {
	for s, want := range map[string]api.Errno{
		"in x 0 9": api.ErrForm, padded("in x 0 9 out y x", api.MaxText+1): api.ErrLong,
		"in x 0 1000000000 out y mul 1000 mul 1000 add 1 x": api.ErrBig,
	} {
		for _, home := range [][]int{nil, {5}, {-1}} {
			got, errno := statute.RunHigh(s, home)
			if len(got) != 0 || errno != want {
				t.Errorf("P5: RunHigh(%.60q, %v) = %v, %d, want %d", s, home, got, errno, want)
			}
		}
	}
}
