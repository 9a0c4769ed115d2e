package solve

import (
	"fmt"
	"testing"

	"statute/simplex"
	"statute/whole"
)

func sums(lists ...[]int) [][]whole.Int {
	var out [][]whole.Int
	for _, l := range lists {
		var list []whole.Int
		for _, v := range l {
			list = append(list, whole.Of(v))
		}
		out = append(out, list)
	}
	return out
}

func plain(lists [][]whole.Int) [][]int {
	var out [][]int
	for _, l := range lists {
		var list []int
		for _, a := range l {
			v, _ := a.Small()
			list = append(list, v)
		}
		out = append(out, list)
	}
	return out
}

func trySums(t *testing.T, what string, got [][]whole.Int, want ...[]int) {
	t.Helper()
	if fmt.Sprint(plain(got)) != fmt.Sprint(want) {
		t.Errorf("%s: %v, want %v", what, plain(got), want)
	}
}

// A sum that is nowhere 0 says nothing, and one that is nowhere 1 must be 0.
func TestTrimmed(t *testing.T) {
	r := region{size: 2, least: sums([]int{0, 1, 0}, []int{9, -1, 0}, []int{30, -1, -1}, []int{0, 0, 1}, []int{1, 0, -2}, []int{-3, 1, 1})}
	table := simplex.New(r.least, r.size)
	if table.IsEmpty() {
		t.Fatal("it is empty")
	}
	got, widths := trimmed(r, table)
	trySums(t, "least", got.least, []int{9, -1, 0}, []int{1, 0, -2}, []int{-3, 1, 1})
	trySums(t, "zero", got.zero, []int{0, 0, 1})
	trySums(t, "widths", [][]whole.Int{widths}, []int{6, 1, 6})
	trySums(t, "what was given", r.least, []int{0, 1, 0}, []int{9, -1, 0}, []int{30, -1, -1}, []int{0, 0, 1}, []int{1, 0, -2}, []int{-3, 1, 1})
}

// The narrower a sum is, the longer are the steps that change it.
func TestProducts(t *testing.T) {
	got := products(sums([]int{7, 1, 0}, []int{7, 0, 1}), []whole.Int{whole.Of(10), whole.Of(5)}, 2)
	trySums(t, "a box", got, []int{1, 0}, []int{0, 4})
	got = products(sums([]int{7, 1, 0}, []int{7, 2, -3}), []whole.Int{whole.Of(100), whole.Of(10)}, 2)
	trySums(t, "a slab", got, []int{401, -600}, []int{-600, 900})
}

func TestLimits(t *testing.T) {
	r := region{size: 2, least: sums([]int{-1, 3, 0}, []int{8, -3, 0}, []int{0, 1, 1}, []int{9, 0, -1})}
	low, high := limits(r, 0)
	trySums(t, "the first", [][]whole.Int{{low, high}}, []int{1, 2})
	low, high = limits(r, 1)
	trySums(t, "the second", [][]whole.Int{{low, high}}, []int{-2, 9})
	r.least = sums([]int{-1, 1}, []int{0, -1})
	r.size = 1
	low, high = limits(r, 0)
	if whole.Compare(low, high) <= 0 {
		t.Error("there are slices of an empty region")
	}
}

func TestSettled(t *testing.T) {
	r := region{size: 2, zero: sums([]int{-4, 0, 2}), least: sums([]int{7, 3, 1}, []int{5, 0, 1}), told: sums([]int{0, 1, 0}, []int{0, 0, 1})}
	got, ok := settled(r)
	if !ok || got.size != 1 {
		t.Fatalf("%d coordinates, %v", got.size, ok)
	}
	// 9 and 3 times the first are at least 0: so it is at least -3.
	trySums(t, "least", got.least, []int{3, 1})
	trySums(t, "told", got.told, []int{0, 1}, []int{2, 0})
	trySums(t, "zero", got.zero)
	for _, zero := range [][]int{{-3, 0, 2}, {1, 0, 0}, {-1, 6, 15}} {
		r.zero = sums(zero)
		if _, ok := settled(r); ok {
			t.Errorf("%v may be 0", zero)
		}
	}
	r.zero = sums([]int{0, 0, 0})
	r.least = sums([]int{-1, 0, 0})
	if _, ok := settled(r); ok {
		t.Error("-1 is at least 0")
	}
}

func TestNextOffset(t *testing.T) {
	var offset whole.Int
	for _, want := range []int{1, -1, 2, -2, 3} {
		offset = nextOffset(offset)
		if got, _ := offset.Small(); got != want {
			t.Errorf("offset %d, want %d", got, want)
		}
	}
}
