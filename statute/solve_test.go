package statute_test

import (
	"slices"
	"testing"

	"statute/api"
	"statute/statute"
)

const (
	most     = api.MaxNumber
	farthest = 1<<63 - 1
)

func to(lo, hi int) api.Range           { return api.Range{Lo: lo, Hi: hi} }
func ranges(l ...api.Range) []api.Range { return l }
func rows(l ...api.Row) []api.Row       { return l }

// least makes a row that must be at least 0, zero one that must be 0; the constant stands ahead.
func least(k int, c ...int) api.Row { return api.Row{C: c, K: k} }
func zero(k int, c ...int) api.Row  { return api.Row{C: c, K: k, Equal: true} }

type solving struct {
	vars []api.Range
	rows []api.Row
	want []int // nil: there is none
}

func trySolve(t *testing.T, list []solving) {
	t.Helper()
	for _, c := range list {
		got, found, errno := statute.Solve(c.vars, c.rows)
		if errno != api.OK || found != (c.want != nil) || !slices.Equal(got, c.want) {
			t.Errorf("P9: Solve(%v, %v) = %v, %v, %d, want %v", c.vars, c.rows, got, found, errno, c.want)
		}
	}
}

func TestP9Examples(t *testing.T) {
	both := ranges(to(0, 9), to(0, 9))
	trySolve(t, []solving{
		{both, rows(zero(-7, 1, 1), least(-2, 1, -1)), []int{5, 2}},
		{both, rows(zero(-1, 2, -4)), nil},
		{both, nil, []int{0, 0}},
		{both, rows(), []int{0, 0}},
	})
}

func TestP9OneNumber(t *testing.T) {
	wide := ranges(to(-most, most))
	trySolve(t, []solving{
		{wide, nil, []int{-most}},
		{wide, rows(least(-7, 1)), []int{7}},
		{wide, rows(least(-7, 2)), []int{4}},
		{wide, rows(least(7, 2)), []int{-3}},
		{wide, rows(least(-7, -2)), []int{-most}},
		{wide, rows(zero(-7, 2)), nil},
		{wide, rows(zero(-8, 2)), []int{4}},
		{wide, rows(zero(8, 2)), []int{-4}},
		{wide, rows(least(-7, 1), least(6, -1)), nil},
		{wide, rows(least(-7, 1), least(7, -1)), []int{7}},
		{wide, rows(least(-7, 3), least(8, -3)), nil},
		{wide, rows(least(0, 0)), []int{-most}},
		{wide, rows(least(-1, 0)), nil},
		{wide, rows(least(1, 0)), []int{-most}},
		{wide, rows(zero(1, 0)), nil},
		{wide, rows(zero(0, 0)), []int{-most}},
		{ranges(to(5, 5)), rows(zero(-5, 1)), []int{5}},
		{ranges(to(5, 5)), rows(zero(-6, 1)), nil},
		{ranges(to(5, 5)), rows(least(-6, 1)), nil},
	})
}

// The list is the least one by its first number, then by its second, and so on; not by its sum, nor from behind.
func TestP9TheLeast(t *testing.T) {
	wide := to(0, most)
	trySolve(t, []solving{
		{ranges(wide, wide), rows(zero(-10, 1, 1)), []int{0, 10}},
		{ranges(wide, to(0, 4)), rows(zero(-10, 1, 1)), []int{6, 4}},
		{ranges(wide, wide, wide), rows(least(-1, 1, 1, 1)), []int{0, 0, 1}},
		{ranges(wide, wide, to(3, 4), wide), rows(zero(-20, 7, 5, 3, 2)), []int{0, 0, 4, 4}},
		{ranges(wide, wide, to(3, 4), to(0, 1)), rows(zero(-20, 7, 5, 3, 2)), nil},
		{ranges(to(-5, 5), to(-5, 5)), rows(least(0, 1, -1)), []int{-5, -5}},
		{ranges(to(-5, 5), to(-5, 5)), rows(least(-1, 1, -1)), []int{-4, -5}},
		{ranges(to(-5, 5), to(-5, 5)), rows(least(-1, -1, 1)), []int{-5, -4}},
		// The first number may be -2, where the second has to be greater than at 3.
		{ranges(to(-2, 5), to(-5, 5)), rows(least(0, 1, 1)), []int{-2, 2}},
	})
}

// Ranges in which nobody can try one number behind the other.
func TestP9Wide(t *testing.T) {
	full := to(-most, most)
	half := to(0, most)
	trySolve(t, []solving{
		{ranges(full, full, full, full), nil, []int{-most, -most, -most, -most}},
		{ranges(half, half), rows(zero(-2*most, 1, 1)), []int{most, most}},
		{ranges(half, half), rows(zero(-2*most-1, 1, 1)), nil},
		{ranges(half, half), rows(zero(0, 999, -1000), least(-1, 1, 0)), []int{1000, 999}},
		{ranges(half, half), rows(least(-1, 999, -1000), least(1, -999, 1000)), []int{999, 998}},
		{ranges(half, half), rows(least(-1, 998, -1000), least(1, -998, 1000)), nil},
		{ranges(full, full), rows(zero(-1, 6, 10)), nil},
		{ranges(full, full, full), rows(zero(-1, 6, 10, 15)), []int{-999999999, -899999999, 999999999}},
		{ranges(half, half, half), rows(zero(-1, 6, 10, -15)), []int{1, 1, 1}},
	})
}

// Each number is 1000/999 of the one ahead: the least such are powers, and the last one just is in its range.
func TestP9Powers(t *testing.T) {
	half := to(0, most)
	list := rows(zero(0, 1000, -999, 0, 0), zero(0, 0, 1000, -999, 0), zero(0, 0, 0, 1000, -999), least(-1, 1, 0, 0, 0))
	powers := []int{999 * 999 * 999, 999 * 999 * 1000, 999 * 1000 * 1000, most}
	trySolve(t, []solving{
		{ranges(half, half, half, half), list, powers},
		{ranges(half, half, half, to(0, most-1)), list, nil},
		{ranges(half, half, half, half), list[:2], []int{0, 0, 0, 0}},
		{ranges(half, half, half, half), append(list[:2:2], list[3]), []int{998001, 999000, 1000000, 0}},
	})
}

// So many of 997 to 1000 come to every amount from 997 times to 1000 times their number: 331003 is the last gap.
func TestP9Coins(t *testing.T) {
	half := to(0, most)
	four := ranges(half, half, half, half)
	trySolve(t, []solving{
		{four, rows(zero(-331000, 997, 998, 999, 1000)), []int{0, 0, 0, 331}},
		{four, rows(zero(-331001, 997, 998, 999, 1000)), nil},
		{four, rows(zero(-331003, 997, 998, 999, 1000)), nil},
		{four, rows(zero(-331004, 997, 998, 999, 1000)), []int{332, 0, 0, 0}},
		{four, rows(least(-331001, 997, 998, 999, 1000), least(331003, -997, -998, -999, -1000)), nil},
		{four, rows(least(-331001, 997, 998, 999, 1000), least(331004, -997, -998, -999, -1000)), []int{332, 0, 0, 0}},
		{four, rows(zero(-api.MaxConst, 997, 998, 999, 1000)), []int{0, 0, 0, most}},
		{four, rows(zero(1-api.MaxConst, 997, 998, 999, 1000)), []int{0, 0, 1, most - 1}},
	})
}

func TestP9Limits(t *testing.T) {
	full := to(-most, most)
	eight := slices.Repeat(rows(least(0, 1)), api.MaxRows)
	trySolve(t, []solving{
		{ranges(full, full, full, full), nil, []int{-most, -most, -most, -most}},
		{ranges(to(most, most)), nil, []int{most}},
		{ranges(to(-most, -most)), nil, []int{-most}},
		{ranges(full), eight, []int{0}},
		{ranges(full), rows(least(0, api.MaxTimes)), []int{0}},
		{ranges(full), rows(least(0, -api.MaxTimes)), []int{-most}},
		{ranges(full), rows(zero(api.MaxConst, api.MaxTimes)), []int{-most}},
		{ranges(full), rows(zero(-api.MaxConst, api.MaxTimes)), []int{most}},
		{ranges(full), rows(zero(api.MaxConst, 1)), nil},
	})
}

func TestP9Errors(t *testing.T) {
	one := ranges(to(0, 9))
	two := ranges(to(0, 9), to(0, 9))
	good := least(0, 1)
	for _, c := range []struct {
		vars []api.Range
		rows []api.Row
	}{
		{nil, nil}, {ranges(), nil}, {nil, rows(least(0))}, {slices.Repeat(one, api.MaxVars+1), nil}, {slices.Repeat(one, 5000), nil},
		{ranges(to(1, 0)), nil}, {ranges(to(0, 9), to(0, -1)), nil}, {ranges(to(-most-1, 0)), nil}, {ranges(to(0, most+1)), nil},
		{ranges(to(most+1, most+1)), nil}, {ranges(to(-most-1, -most-1)), nil}, {ranges(to(-farthest-1, farthest)), nil}, {ranges(to(farthest, -farthest-1)), nil},
		{ranges(to(0, 9), to(0, 9), to(0, 9), to(0, most+1)), nil},
		{one, slices.Repeat(rows(good), api.MaxRows+1)}, {one, slices.Repeat(rows(good), 100000)},
		{one, rows(least(0))}, {one, rows(api.Row{})}, {one, rows(least(0, 1, 0))}, {two, rows(least(0, 1))}, {two, rows(least(0, 1, 1), zero(0, 1))}, {two, rows(least(0, 1, 1, 1))},
		{one, rows(least(0, api.MaxTimes+1))}, {one, rows(least(0, -api.MaxTimes-1))}, {one, rows(zero(0, farthest))}, {one, rows(zero(0, -farthest-1))}, {two, rows(least(0, 0, 1001))},
		{one, rows(least(api.MaxConst+1, 1))}, {one, rows(least(-api.MaxConst-1, 1))}, {one, rows(zero(farthest, 1))}, {one, rows(zero(-farthest-1, 1))},
		// What is wrong is told even if there is no list of numbers, or one without looking at that row.
		{one, rows(least(-1, 0), least(0, 1001))}, {one, rows(good, good, good, good, good, good, good, least(0))}, {ranges(to(1, 0)), rows(least(-1, 0))},
	} {
		got, found, errno := statute.Solve(c.vars, c.rows)
		if len(got) != 0 || found || errno != api.ErrRows {
			t.Errorf("P9: Solve(%.80v, %.80v) = %v, %v, %d", c.vars, c.rows, got, found, errno)
		}
	}
}

func TestP2SolveWritesIntoNothing(t *testing.T) {
	vars := ranges(to(0, 9), to(0, 9), to(7, 7))
	all := []int{1, 1, 55, 1, -1, 66}
	list := rows(api.Row{C: all[0:2], K: -7, Equal: true}, api.Row{C: all[3:5], K: -2}, least(-1000, 1, 1))
	for _, n := range []int{1, 2, 3} {
		statute.Solve(vars[:2], list[:n])
	}
	statute.Solve(vars[:1], list[:1])
	if !slices.Equal(vars, ranges(to(0, 9), to(0, 9), to(7, 7))) || !slices.Equal(all, []int{1, 1, 55, 1, -1, 66}) {
		t.Errorf("P2: Solve wrote into what was handed in: %v, %v", vars, all)
	}
	for i, want := range rows(zero(-7, 1, 1), least(-2, 1, -1), least(-1000, 1, 1)) {
		if list[i].K != want.K || list[i].Equal != want.Equal || !slices.Equal(list[i].C, want.C) {
			t.Errorf("P2: Solve wrote into the row %d: %v", i, list[i])
		}
	}
}

func TestP2WhatSolveTellsIsFresh(t *testing.T) {
	vars := ranges(to(3, 9), to(4, 9))
	list := rows(least(0, 1, 1))
	first, _, _ := statute.Solve(vars, list)
	second, _, _ := statute.Solve(vars, list)
	fill(first)
	if !slices.Equal(second, []int{3, 4}) || vars[0] != to(3, 9) || !slices.Equal(list[0].C, []int{1, 1}) {
		t.Errorf("P2: a list that Solve told is shared: %v, %v, %v", second, vars, list)
	}
	vars[0] = to(8, 8)
	fill(list[0].C)
	if !slices.Equal(second, []int{3, 4}) {
		t.Errorf("P2: what was handed to Solve is shared: %v", second)
	}
	trySolve(t, []solving{{ranges(to(3, 9), to(4, 9)), rows(least(0, 1, 1)), []int{3, 4}}})
}

// The order of the rows, rows that say the same and rows that say nothing change no answer.
func TestP9TheSameInOtherWords(t *testing.T) {
	vars := slices.Repeat(ranges(to(-most, most)), 3)
	want := []int{-874999999, -874999997, -999999999}
	line := zero(-11, 3, 5, -7)
	side := least(4, 1, -1, 0)
	for _, list := range [][]api.Row{
		rows(line, side), rows(side, line), rows(side, line, side, line, side, line, side, line), rows(zero(11, -3, -5, 7), side),
		rows(zero(-1100, 300, 500, -700), least(4000, 1000, -1000, 0)), rows(least(-11, 3, 5, -7), least(11, -3, -5, 7), side),
		rows(line, side, least(0, 0, 0, 0), zero(0, 0, 0, 0), least(2*most, 1, 1, 0)), rows(line, least(5, 1, -1, 0), least(9, 2, -2, 0)),
	} {
		trySolve(t, []solving{{vars, list, want}})
	}
}
