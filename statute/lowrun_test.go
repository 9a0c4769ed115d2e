package statute_test

import (
	"slices"
	"testing"

	"statute/api"
	"statute/statute"
)

func tryLowRuns(t *testing.T, list []run) {
	t.Helper()
	for _, c := range list {
		got, errno := statute.RunLow(c.s, c.home)
		if !slices.Equal(got, c.want) || errno != api.OK {
			t.Errorf("P8: RunLow(%.80q, %v) = %v, %d, want %v", c.s, c.home, got, errno, c.want)
		}
	}
}

const even = "in x -9 9 set a flr x 2 set b add a a set c eq b x set d sel c 0 1 out y d"

func TestP8Examples(t *testing.T) {
	tryLowRuns(t, []run{
		{even, []int{4}, []int{0}}, {even, []int{-3}, []int{1}}, {even, []int{-4}, []int{0}}, {even, []int{9}, []int{1}}, {even, []int{0}, []int{0}}, {even, []int{-9}, []int{1}},
	})
}

func TestP8Values(t *testing.T) {
	pair := "in x -9 9 in y -9 9 "
	sums := pair + "set a add x y set b sub x y set c mul -3 x set d flr x 4 out o a out p b out q c out r d"
	most := api.MaxValue
	tryLowRuns(t, []run{
		{sums, []int{3, 5}, []int{8, -2, -9, 0}}, {sums, []int{5, 3}, []int{8, 2, -15, 1}}, {sums, []int{-5, -5}, []int{-10, 0, 15, -2}},
		{sums, []int{-8, 9}, []int{1, -17, 24, -2}}, {sums, []int{-9, 9}, []int{0, -18, 27, -3}}, {sums, []int{-1, 0}, []int{-1, -1, 3, -1}}, {sums, []int{4, 0}, []int{4, 4, -12, 1}},
		{"in x 0 9 set a flr -7 2 set b flr 7 2 set c flr -1 1000000 set d flr x 1 out o a out p b out q c out r d", []int{6}, []int{-4, 3, -1, 6}},
		{"in x 0 9 out y x out z x out w 5", []int{3}, []int{3, 3, 5}},
		{"in a 0 9 in b 0 9 in c 0 9 in d 0 9 out s d out t c out u b out v a", []int{1, 2, 3, 4}, []int{4, 3, 2, 1}},
		{"in x -1000000000 1000000000 set a mul 1000 x set b mul -1000 a set c flr b 999999 set d sub 0 b set e flr d 999999 out y b out z c out w e", []int{-1000000000}, []int{most, most / 999999, -most/999999 - 1}},
		{steps(80), []int{7}, []int{7}}, {outs(4), []int{8}, []int{8, 8, 8, 8}}, {inputs(4), []int{1, 2, 3, 4}, []int{1}},
	})
}

func TestP8Flags(t *testing.T) {
	pair := "in x -9 9 in y -9 9 "
	signs := pair + "set f lt x y set g le x y set h eq x y set a sel f 1 0 set b sel g 1 0 set c sel h 1 0 out o a out p b out q c"
	logic := pair + "set f lt x 0 set g lt y 0 set h and f g set i or f g set j not f set k not i " +
		"set a sel h 1 0 set b sel i 1 0 set c sel j 1 0 set d sel k 1 0 out o a out p b out q c out r d"
	tryLowRuns(t, []run{
		{signs, []int{3, 5}, []int{1, 1, 0}}, {signs, []int{5, 5}, []int{0, 1, 1}}, {signs, []int{5, -3}, []int{0, 0, 0}}, {signs, []int{-5, -3}, []int{1, 1, 0}},
		{logic, []int{-1, -2}, []int{1, 1, 0, 0}}, {logic, []int{-1, 2}, []int{0, 1, 0, 0}}, {logic, []int{1, -2}, []int{0, 1, 1, 0}}, {logic, []int{1, 2}, []int{0, 0, 1, 1}},
		{pair + "set f eq x 3 set a sel f x y set b sel f y x out o a out p b", []int{3, 4}, []int{3, 4}},
		{pair + "set f eq x 3 set a sel f x y set b sel f y x out o a out p b", []int{2, 4}, []int{4, 2}},
		{lowTaxes, []int{0, 0, 0}, []int{0, 0, 12}},
		// base 98200, by 7: 14028; neither poor nor many
		{lowTaxes, []int{100000, 2, 900}, []int{14028, 14928, 12}},
		// base 100000 less 3600, by 7: 13771; many
		{lowTaxes, []int{100000, 4, 900}, []int{14671, 14671, 12}},
		// base below 0: poor, with a child
		{lowTaxes, []int{-1, 1, 5}, []int{5, 5, 12}},
	})
}

// A chain of 80 steps, each of which takes the one ahead.
func TestP8StepsAreDoneInTheirOrder(t *testing.T) {
	s := "in x 0 9 set a0 add x 1"
	names := []string{"a0"}
	for i := 1; i < api.MaxSteps; i++ {
		name := string([]byte{byte('a' + i/10), byte('0' + i%10)})
		op := []string{" add ", " sub "}[i%2]
		s += " set " + name + op + names[i-1] + " x"
		names = append(names, name)
	}
	// one step adds x and 1; 40 steps take x away and 39 add it
	tryLowRuns(t, []run{{s + " out y " + names[79], []int{7}, []int{1}}, {s + " out y " + names[78], []int{7}, []int{8}}})
	doubled := "in x 0 1 set a add x x set b add a a set c add b b set d add c c set e add d d set f add e e out y f"
	tryLowRuns(t, []run{{doubled, []int{1}, []int{64}}})
}

func TestP8ErrHome(t *testing.T) {
	s := "in x 0 9 in k 0 3 set a sub x k out y a"
	for _, home := range [][]int{
		nil, {}, {5}, {5, 1, 0}, {10, 1}, {-1, 1}, {5, 4}, {5, -1}, {1 << 40, 1}, {5, 1<<63 - 1}, {-1 << 63, 1}, {5, 1, 5, 1, 5},
	} {
		got, errno := statute.RunLow(s, home)
		if len(got) != 0 || errno != api.ErrHome {
			t.Errorf("P8: RunLow for %v = %v, %d, want ErrHome", home, got, errno)
		}
	}
	for _, home := range [][]int{{0, 0}, {9, 0}, {0, 3}, {9, 3}} {
		got, errno := statute.RunLow(s, home)
		if errno != api.OK || !slices.Equal(got, []int{home[0] - home[1]}) {
			t.Errorf("P8: the household %v at the edges: %v, %d", home, got, errno)
		}
	}
}

func TestP8TellsTheErrorOfCheck(t *testing.T) {
	for s, want := range map[string]api.Errno{
		"in x 0 9": api.ErrForm, "in x 0 9 out y add x 1": api.ErrForm, padded("in x 0 9 out y x", api.MaxText+1): api.ErrLong,
		"in x 0 1000000000 set a mul 1000 x set b mul 1000 a set c add b 1 out y x": api.ErrBig,
	} {
		for _, home := range [][]int{nil, {5}, {-1}} {
			got, errno := statute.RunLow(s, home)
			if len(got) != 0 || errno != want {
				t.Errorf("P8: RunLow(%.60q, %v) = %v, %d, want %d", s, home, got, errno, want)
			}
		}
	}
}
