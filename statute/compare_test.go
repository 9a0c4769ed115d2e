package statute_test

import (
	"slices"
	"strings"
	"testing"

	"statute/api"
	"statute/statute"
)

const (
	wide  = "in x 0 1000000000 "
	full  = "in x -1000000000 1000000000 "
	two   = "in x 0 1000000000 in y 0 1000000000 "
	four  = "in x -1000000000 1000000000 in y -1000000000 1000000000 in z -1000000000 1000000000 in w -1000000000 1000000000 "
	bands = "set c lt x 100 set d lt x 300 set e lt x 700 set a sub x 100 set p mul 10 a set q sub x 300 set u mul 20 q set v add 2000 u set w sub x 700 set g mul 30 w set h add 10000 g set i sel e v h set j sel d p i set k sel c 0 j out t k"
)

// comparison: what Compare is to say of a pair; a nil home says that both are the same.
type comparison struct {
	high, low string
	home      []int
	out       int
}

func tryComparisons(t *testing.T, list []comparison) {
	t.Helper()
	for i, c := range list {
		v, errno := statute.Compare(c.high, c.low)
		if errno != api.OK || v.Same != (c.home == nil) || !slices.Equal(v.Home, c.home) || v.Out != c.out {
			t.Errorf("P10: line %d: Compare(%q, %q) = %v, %d, want %v, %d", i, c.high, c.low, v, errno, c.home, c.out)
		}
	}
}

func same(high, low string) comparison { return comparison{high, low, nil, 0} }

func TestP10Examples(t *testing.T) {
	tryComparisons(t, []comparison{
		same(wide+"out y div near x 100", wide+"set a add x 50 set b flr a 100 out y b"),
		{wide + "out y div near x 100", wide + "set a add x 49 set b flr a 100 out y b", []int{50}, 0},
		{wide + "in k 0 9 out y if lt x 12000 0 mul 3 sub x 12000 out z k",
			wide + "in k 0 9 set c le x 12000 set a mul 3 x set b sub a 36000 set d sel c 0 b set e eq k 7 set f sel e 8 k out y d out z f", []int{0, 7}, 1},
	})
	for _, low := range []string{"in x 0 8 out y x", "in x 0 9 out z x"} {
		if _, errno := statute.Compare("in x 0 9 out y x", low); errno != api.ErrPair {
			t.Errorf("P10: Compare with %q: %d", low, errno)
		}
	}
}

// Every operation of the high form, as it may be said in the low form, and with one thing wrong.
func TestP10Operations(t *testing.T) {
	tryComparisons(t, []comparison{
		same(two+"out o add x y", two+"set a add y x out o a"),
		{two + "out o add x y", two + "set a sub x y out o a", []int{0, 1}, 0},
		same(two+"out o sub x y", two+"set a sub y x set b mul -1 a out o b"),
		{two + "out o sub x y", two + "set a sub y x out o a", []int{0, 1}, 0},
		same(two+"out o mul -1000 x", two+"set a mul 1000 x set b sub 0 a out o b"),
		{two + "out o mul -1000 x", two + "set a mul -999 x out o a", []int{1, 0}, 0},
		same(two+"out o min x y", two+"set c lt x y set a sel c x y out o a"),
		{two + "out o min x y", two + "set c lt x y set a sel c y x out o a", []int{0, 1}, 0},
		same(two+"out o max x y", two+"set c lt x y set a sel c y x out o a"),
		same(two+"out o if eq x y 5 6", two+"set c eq y x set a sel c 5 6 out o a"),
		{two + "out o if eq x y 5 6", two + "set c le x y set a sel c 5 6 out o a", []int{0, 1}, 0},
		same(two+"out o if le x y 5 6", two+"set c lt y x set a sel c 6 5 out o a"),
		same(two+"out o if lt x y 5 6", two+"set c le x y set d eq x y set e not d set f and c e set a sel f 5 6 out o a"),
		same(two+"out o if and lt x 5 lt y 7 1 0", two+"set a le 5 x set b le 7 y set c or b a set d sel c 0 1 out o d"),
		{two + "out o if and lt x 5 lt y 7 1 0", two + "set a le 5 x set b le 8 y set c or b a set d sel c 0 1 out o d", []int{0, 7}, 0},
		{two + "out o if or lt x 5 lt y 7 1 0", two + "set a le 5 x set b le 8 y set c and b a set d sel c 0 1 out o d", []int{5, 7}, 0},
		same(two+"out o if not not lt x 5 x y", two+"set a lt x 5 set b not a set c not b set d sel c x y out o d"),
		same(full+"out o div down x 7", full+"set a flr x 7 out o a"),
		same(full+"out o div up x 7", full+"set n sub 0 x set a flr n 7 set u sub 0 a out o u"),
		{full + "out o div up x 7", full + "set a flr x 7 set u add a 1 out o u", []int{-999999994}, 0},
		same(full+"out o div zero x 7", full+"set c lt x 0 set n sub 0 x set a flr n 7 set u sub 0 a set d flr x 7 set z sel c u d out o z"),
		{full + "out o div zero x 7", full + "set a flr x 7 out o a", []int{-1000000000}, 0},
		{full + "out o div zero x 1000000", full + "set c lt x 1 set n sub 0 x set a flr n 1000000 set u sub 0 a set d flr x 999999 set z sel c u d out o z", []int{999999}, 0},
		same(full+"out o div near x 7", full+"set a mul 2 x set b add a 7 set d flr b 14 out o d"),
		same(full+"out o div near x 6", full+"set a add x 3 set d flr a 6 out o d"),
		{full + "out o div near x 6", full + "set a add x 2 set d flr a 6 out o d", []int{-999999999}, 0},
		same(wide+"out t tab x 3 100 10 300 20 700 30", wide+bands),
		{wide + "out t tab x 3 100 10 300 20 700 30", wide + strings.Replace(bands, "add 2000 u", "add 1999 u", 1), []int{300}, 0},
		{wide + "out t tab x 3 100 10 300 20 700 30", wide + strings.Replace(bands, "mul 30 w", "mul 31 w", 1), []int{701}, 0},
		{wide + "out t tab x 3 100 10 300 20 700 30", wide + strings.Replace(bands, "lt x 100", "lt x 102", 1), []int{101}, 0},
	})
}

// Home is the least household at which any out parts, by the inputs in their order; Out the first out that parts there.
func TestP10TheLeastHouseholdAndTheFirstOut(t *testing.T) {
	tryComparisons(t, []comparison{
		{"in x 0 9 out a x out b x", "in x 0 9 set c lt x 7 set d sel c x 0 set e lt x 3 set f sel e x 0 out a d out b f", []int{3}, 1},
		{"in x 0 9 out a x out b x", "in x 0 9 set e lt x 3 set f sel e x 0 out a f out b f", []int{3}, 0},
		{"in x 0 9 out a x out b x out c x out d x", "in x 0 9 set e lt x 9 set f sel e x 0 out a x out b x out c x out d f", []int{9}, 3},
		{"in x 0 9 in y 0 9 out a x out b y", "in x 0 9 in y 0 9 set c eq x 1 set d sel c 0 x set e eq y 5 set f sel e 0 y out a d out b f", []int{0, 5}, 1},
		{"in x 0 9 in y 0 9 out a x out b y", "in x 0 9 in y 0 9 set c eq y 5 set d sel c -1 x set e eq y 5 set f sel e 0 y out a d out b f", []int{0, 5}, 0},
		{four + "out o 0", four + "set a add x y set b add z w set c add a b set d eq c 0 set e sel d 1 0 out o e", []int{-1000000000, -1000000000, 1000000000, 1000000000}, 0},
		{four + "out o 0", four + "set a add x y set b add z w set c add a b set d lt 1000000000 c set e sel d 1 0 out o e", []int{-1000000000, 1, 1000000000, 1000000000}, 0},
		{two + "out m add x y", two + "set c eq x 123456 set d eq y 654321 set e and c d set s add x y set f sel e 0 s out m f", []int{123456, 654321}, 0},
		{two + "out m 0", two + "set a mul 3 x set b mul 5 y set c sub a b set d eq c 1 set e lt 1000000 y set f and d e set g sel f 1 0 out m g", []int{1666672, 1000003}, 0},
	})
}

// The ends of the ranges, ranges of one number, and the greatest values that may be.
func TestP10Edges(t *testing.T) {
	low := "in x 0 1000000000 set a mul 1000 x set b mul 1000 a "
	tryComparisons(t, []comparison{
		same("in x 5 5 out y x", "in x 5 5 out y 5"),
		{"in x 5 5 out y x", "in x 5 5 out y 6", []int{5}, 0},
		same("in x -1000000000 -1000000000 out y div up x 7", "in x -1000000000 -1000000000 out y -142857142"),
		{full + "out y x", full + "set c lt x 1000000000 set d sel c x 0 out y d", []int{1000000000}, 0},
		{full + "out y x", full + "set c lt -1000000000 x set d sel c x 0 out y d", []int{-1000000000}, 0},
		same(full+"out y x", full+"set c lt 1000000000 x set d sel c 0 x set e lt x -1000000000 set f sel e 0 d out y f"),
		same(wide+"let a mul 1000 x out y mul 1000 a", low+"out y b"),
		{wide + "let a mul 1000 x out y mul 1000 a", low + "set c flr b 1000000 set d lt 999999999 c set e sel d a b out y e", []int{1000000000}, 0},
		same(wide+"out y div down mul 1000 mul 1000 x 1000000", low+"set c flr b 1000000 out y c"),
		{wide + "out y div near mul 1000 mul 999 x 999999", wide + "set a mul 1000 x set b mul 999 a set c flr b 999999 out y c", []int{1}, 0},
		same(wide+"out y div near mul 1000 mul 999 x 999999", wide+"set a mul 1000 x set b mul 999 a set c add b 499999 set d flr c 999999 out y d"),
		same("in z 0 0 let a mul 1000 mul 1000 mul 1000 mul 1000 mul 1000 mul 1000 z out y mul 1000 mul 1000 a", "in z 0 0 out y 0"),
	})
}

// Programs as they may be in earnest: everything is translated step by step.
func TestP10Taxes(t *testing.T) {
	low := `in income -1000000 1000000000 in kids 0 20 in rent 0 5000
set free mul 900 kids set left sub income free set neg lt left 0 set base sel neg 0 left
set o1 sub base 10000 set n1 lt o1 0 set h1 sel n1 0 o1 set t1 mul 14 h1
set o2 sub base 60000 set n2 lt o2 0 set h2 sel n2 0 o2 set t2 mul 28 h2
set o3 sub base 250000 set n3 lt o3 0 set h3 sel n3 0 o3 set t3 mul 3 h3
set s1 add t1 t2 set s2 add s1 t3 set s3 add s2 50 set tax flr s3 100
set poor lt income 30000 set none eq kids 0 set some not none set both and poor some
set perkid mul 250 kids set r1 add rent 2 set third flr r1 3 set aid sel both perkid third
set small le tax aid set top eq rent 5000 set free0 or top small set over sub tax aid set due0 sel free0 0 over
set month flr tax 12 set less lt aid month set paid0 sel less aid month
set net sub income tax set rest0 flr net 7
out due due0 out paid paid0 out rest rest0`
	tryComparisons(t, []comparison{
		same(taxes, low),
		same(taxes, strings.Replace(low, "lt o3 0", "lt o3 2", 1)), // 3 more are rounded off there
		{taxes, strings.Replace(low, "lt income 30000", "le income 30000", 1), []int{30000, 1, 0}, 0},
		{taxes, strings.Replace(low, "eq rent 5000", "le 4999 rent", 1), []int{12690, 1, 4999}, 0},
		{taxes, strings.Replace(low, "flr tax 12", "flr tax 13", 1), []int{10083, 0, 1}, 1},
		{taxes, strings.Replace(low, "mul 3 h3", "mul 4 h3", 1), []int{250012, 0, 0}, 0},
	})
}

// errorOf tells the error of Compare, and asks that nothing is beside it.
func errorOf(t *testing.T, high, low string) api.Errno {
	t.Helper()
	v, errno := statute.Compare(high, low)
	if errno != api.OK && (v.Same || len(v.Home) != 0 || v.Out != 0) {
		t.Errorf("P1: Compare(%.60q, %.60q) = %v beside %d", high, low, v, errno)
	}
	if errno == api.OK && v.Same && (len(v.Home) != 0 || v.Out != 0) {
		t.Errorf("P10: Compare(%.60q, %.60q) = %v", high, low, v)
	}
	return errno
}

// The error of the high text comes first, then that of the low one, then that of the pair.
func TestP10Errors(t *testing.T) {
	right := "in x 0 9 out y x"
	long := padded(right, api.MaxText+1)
	highBig, lowBig := "in x 0 1000000000 out y mul 1000 mul 1000 add 1 x", "in x 0 1000000000 set a mul 1000 x set b mul 1000 a set c add 1 b out y c"
	highs := []struct {
		s     string
		errno api.Errno
	}{{long, api.ErrLong}, {"in x 0 9 set a add x 1 out y a", api.ErrForm}, {"", api.ErrForm}, {highBig, api.ErrBig}, {"in x 0 9 out y add x 0", api.OK}, {right, api.OK}}
	lows := []struct {
		s     string
		errno api.Errno
	}{{long, api.ErrLong}, {"in x 0 9 out y add x 1", api.ErrForm}, {"", api.ErrForm}, {lowBig, api.ErrBig}, {"in x 0 8 out y x", api.ErrPair}, {right, api.OK}}
	for _, h := range highs {
		for _, l := range lows {
			want := h.errno
			if want == api.OK {
				want = l.errno
			}
			if got := errorOf(t, h.s, l.s); got != want {
				t.Errorf("P1, P10: Compare(%.40q, %.40q): %d, want %d", h.s, l.s, got, want)
			}
		}
	}
}

func TestP10Pairs(t *testing.T) {
	high := "in x 0 9 in k -3 3 let n add x k out y n out z k"
	for _, c := range []struct {
		low  string
		want api.Errno
	}{
		{"in x 0 9 in k -3 3 set m add x k out y m out z k", api.OK},
		{"in x 0 9 # other remarks\n\nin k -3 3 set n add x k set y1 add 1 2 out y n out z k", api.OK},
		{"in x 0 9 out y x out z x", api.ErrPair},
		{"in x 0 9 in k -3 3 in l 0 0 out y x out z k", api.ErrPair},
		{"in k -3 3 in x 0 9 set m add x k out y m out z k", api.ErrPair},
		{"in k 0 9 in x -3 3 set m add x k out y m out z k", api.ErrPair},
		{"in x 0 10 in k -3 3 set m add x k out y m out z k", api.ErrPair},
		{"in x 1 9 in k -3 3 set m add x k out y m out z k", api.ErrPair},
		{"in x 0 9 in k -3 4 set m add x k out y m out z k", api.ErrPair},
		{"in x 0 9 in k -4 3 set m add x k out y m out z k", api.ErrPair},
		{"in x 0 9 in k1 -3 3 set m add x k1 out y m out z k1", api.ErrPair},
		{"in x 0 9 in k -3 3 set m add x k out z k out y m", api.ErrPair},
		{"in x 0 9 in k -3 3 set m add x k out y m", api.ErrPair},
		{"in x 0 9 in k -3 3 set m add x k out y m out z k out v k", api.ErrPair},
		{"in x 0 9 in k -3 3 set m add x k out y m out z1 k", api.ErrPair},
	} {
		if got := errorOf(t, high, c.low); got != c.want {
			t.Errorf("P10: Compare with %q: %d, want %d", c.low, got, c.want)
		}
	}
}

// Whatever stands in the texts, Compare tells the error of the checks, and nothing beside it.
func TestP1CompareAnyText(t *testing.T) {
	texts := []string{
		"", " ", "#", "\x00", "\xff", "in", strings.Repeat("in ", 2000), strings.Repeat("x", 6001), strings.Repeat("add ", 700), one, one + "out y x", one + "out y add x 1",
		one + "set a flr x 3 out y a", taxes, lowTaxes, sum(296), sum(297), steps(80), steps(81), lets(16), lets(17), table(6), table(7), inputs(4), inputs(5), outs(4), outs(5),
		one + "out y if" + strings.Repeat(" not", 588) + " lt x 5 1 0",
	}
	for _, h := range texts {
		for _, l := range texts {
			want, _ := statute.CheckHigh(h)
			if want == api.OK {
				want, _ = statute.CheckLow(l)
			}
			got := errorOf(t, h, l)
			if got != want && (want != api.OK || got != api.ErrPair) {
				t.Errorf("P1: Compare(%.60q, %.60q): %d, want %d", h, l, got, want)
			}
		}
	}
}

func TestP2CompareIsFresh(t *testing.T) {
	high, low := two+"out o add x y", two+"set c eq x 7 set d eq y 8 set e and c d set s add x y set f sel e 0 s out o f"
	first, _ := statute.Compare(high, low)
	second, _ := statute.Compare(high, low)
	fill(first.Home)
	if !slices.Equal(second.Home, []int{7, 8}) {
		t.Errorf("P2: a household that Compare told is shared: %v", second.Home)
	}
	statute.Compare(taxes, taxes)
	statute.Compare(wide+"out y x", wide+"out y 5")
	third, errno := statute.Compare(high, low)
	if errno != api.OK || third.Same || !slices.Equal(third.Home, []int{7, 8}) || third.Out != 0 {
		t.Errorf("P2: Compare answers otherwise: %v, %d", third, errno)
	}
}

// Conditions against flags, over few households: what Compare says is held against running both texts for all of them.
func TestP10AllHouseholds(t *testing.T) {
	count, alike := 0, 0
	for seed := range 1500 {
		m := &maker{state: uint64(seed), names: []string{"x", "y"}}
		m.values = append(m.values, nil, nil)
		m.bounds = append(m.bounds, whole(9), whole(9))
		m.most = whole(0)
		head := "in x -4 5 in y 0 6 "
		m.condition(m.between(0, 3))
		high := head + "out o if " + strings.Join(m.tokens, " ") + " 1 0"
		low := m.lowFlags(head)
		if e, _ := statute.CheckHigh(high); e != api.OK {
			continue
		}
		if e, _ := statute.CheckLow(low); e != api.OK {
			continue
		}
		count++
		want := tryAll(high, low)
		if want == nil {
			alike++
		}
		tryComparisons(t, []comparison{{high, low, want, 0}})
	}
	if count < 500 || alike < 20 || count-alike < 200 {
		t.Errorf("of %d pairs %d are alike", count, alike)
	}
}

// lowFlags makes a text of the low form that tells 1 or 0.
func (m *maker) lowFlags(head string) string {
	m.tokens = nil
	var flags []string
	for i := range m.between(2, 9) {
		name := "s" + string(rune('a'+i))
		m.put("set", name)
		if i%2 == 0 {
			m.flagStep(flags)
			flags = append(flags, name)
		} else {
			m.valueStep(nil)
			m.names = append(m.names, name)
		}
	}
	return head + strings.Join(m.tokens, " ") + " set last sel " + flags[len(flags)-1] + " 1 0 out o last"
}

// tryAll tells the least household of those texts at which they part, or nil.
func tryAll(high, low string) []int {
	for x := -4; x <= 5; x++ {
		for y := 0; y <= 6; y++ {
			a, _ := statute.RunHigh(high, []int{x, y})
			b, _ := statute.RunLow(low, []int{x, y})
			if !slices.Equal(a, b) {
				return []int{x, y}
			}
		}
	}
	return nil
}
