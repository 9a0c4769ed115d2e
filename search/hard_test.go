package search

import (
	"slices"
	"strings"
	"testing"

	"statute/api"
	"statute/high"
)

const (
	wide = "in x 0 1000000000 "
	two  = "in x 0 1000000000 in y 0 1000000000 "
	four = "in x 0 1000000000 in y 0 1000000000 in z 0 1000000000 in w 0 1000000000 "
)

// minTent folds the numbers so many times, by the lesser of two; lowTent does so by a choice. Each has two ways through
// it for each fold, so that all of them together are soon too many.
func minTent(n int) string {
	s := wide
	last := "x"
	for i := range n {
		s += "let t" + num(i) + " mul 2 min " + last + " sub 1000000000 " + last + " "
		last = "t" + num(i)
	}
	return s + "out y " + last
}

func lowTent(n int) string {
	s := wide
	last := "x"
	for i := range n {
		k := num(i)
		s += "set c" + k + " lt " + last + " 500000000 set a" + k + " mul 2 " + last + " set b" + k + " sub 1000000000 " + last +
			" set d" + k + " mul 2 b" + k + " set t" + k + " sel c" + k + " a" + k + " d" + k + " "
		last = "t" + k
	}
	return s + "out y " + last
}

// roundedTent is like a tent, but rounded.
func roundedTent(n int) string {
	s := wide
	last := "x"
	for i := range n {
		s += "let t" + num(i) + " if lt " + last + " 300000000 div down mul 3 " + last + " 2 sub 800000000 div near " + last + " 3 "
		last = "t" + num(i)
	}
	return s + "out y " + last
}

// allRests rounds x, x + 1 and so on, each by n: together that is x.
func allRests(n, first int) string {
	e := "div down x " + num(n)
	for i := 1; i < n; i++ {
		e = "add div down add x " + num(i) + " " + num(n) + " " + e
	}
	return wide + "out y " + strings.Replace(e, "add x 1 ", "add x "+num(first)+" ", 1)
}

// network sorts four numbers by comparing the given pairs, in the high and in the low form.
func network(pairs [][2]int) (string, string) {
	h, l := four, four
	wires := []string{"x", "y", "z", "w"}
	for k, p := range pairs {
		a, b, n := wires[p[0]], wires[p[1]], num(k)
		h += "let a" + n + " min " + a + " " + b + " let b" + n + " max " + a + " " + b + " "
		l += "set c" + n + " lt " + a + " " + b + " set a" + n + " sel c" + n + " " + a + " " + b + " set b" + n + " sel c" + n + " " + b + " " + a + " "
		wires[p[0]], wires[p[1]] = "a"+n, "b"+n
	}
	for i, w := range wires {
		h += "out o" + num(i) + " " + w + " "
		l += "out o" + num(i) + " " + w + " "
	}
	return h, l
}

// rests makes a text of the low form that tells 1 where x leaves all those rests, else 0.
func rests(list ...[2]int) string {
	s := wide
	all := ""
	for i, r := range list {
		n := num(i)
		s += "set q" + n + " flr x " + num(r[0]) + " set m" + n + " mul " + num(r[0]) + " q" + n + " set r" + n + " sub x m" + n + " set e" + n + " eq r" + n + " " + num(r[1]) + " "
		if all == "" {
			all = "e" + n
			continue
		}
		s += "set f" + n + " and e" + n + " " + all + " "
		all = "f" + n
	}
	return s + "set one sel " + all + " 1 0 out y one"
}

// greatest tells the greatest of so many sums, which the two forms compare in opposite orders.
func greatest(n int, state uint64) (string, string) {
	m := &maker{state: state}
	names := []string{"x", "y", "z", "w"}
	l := four
	e := ""
	for i := range n {
		k, a, b := num(i), names[m.below(4)], names[m.below(4)]
		p, q, c := num(m.between(-9, 9)), num(m.between(1, 9)), num(m.between(-100000, 100000))
		s := "add add mul " + p + " " + a + " mul " + q + " " + b + " " + c
		if i > 0 {
			s = "max " + s + " " + e
		}
		e = s
		l += "set p" + k + " mul " + p + " " + a + " set q" + k + " mul " + q + " " + b + " set r" + k + " add p" + k + " q" + k + " set f" + k + " add " + c + " r" + k + " "
	}
	last := "f" + num(n-1)
	for i := n - 2; i >= 0; i-- {
		k := num(i)
		l += "set c" + k + " lt f" + k + " " + last + " set m" + k + " sel c" + k + " " + last + " f" + k + " "
		last = "m" + k
	}
	return four + "out o " + e, l + "out o " + last
}

func TestHardPairs(t *testing.T) {
	h1, l1 := network([][2]int{{0, 1}, {2, 3}, {0, 2}, {1, 3}, {1, 2}})
	h2, l2 := network([][2]int{{0, 1}, {1, 2}, {2, 3}, {0, 1}, {1, 2}, {0, 1}})
	h3, l3 := network([][2]int{{0, 1}, {1, 2}, {2, 3}, {0, 1}, {1, 2}})
	h4, l4 := greatest(8, 1)
	h5, l5 := greatest(13, 0)
	zero := wide + "out y 0"
	for _, c := range []struct {
		what, high, low string
		home            []int // nil: the same
	}{
		{"4 tents", minTent(4), lowTent(4), nil},
		{"16 tents", minTent(16), lowTent(16), nil},
		{"the last of 16 tents one earlier", minTent(16), strings.Replace(lowTent(16), "lt t14 500000000", "lt t14 499999999", 1), nil},
		{"the last of 10 tents one thousand later", minTent(10), strings.Replace(lowTent(10), "lt t8 500000000", "lt t8 500001000", 1), []int{976563}},
		{"3 rests", allRests(3, 1), wide + "out y x", nil},
		{"20 rests", allRests(20, 1), wide + "out y x", nil},
		{"20 rests, one of them wrong", allRests(20, 0), wide + "out y x", []int{19}},
		{"sorted in two ways", h1, l2, nil},
		{"sorted in two ways, the other way round", h2, l1, nil},
		{"not quite sorted", h1, l3, []int{1, 1, 1, 0}},
		{"not quite sorted, the other way round", h3, l2, []int{1, 1, 1, 0}},
		{"the greatest of 8", h4, l4, nil},
		{"the greatest of 13", h5, l5, nil},
		{"nearest by the rest", wide + "out y div near x 100", wide + "set q flr x 100 set m mul 100 q set r sub x m set c lt r 50 set a add q 1 set b sel c q a out y b", nil},
		{"nearest by the rest, halves down", wide + "out y div near x 100", wide + "set q flr x 100 set m mul 100 q set r sub x m set c le r 50 set a add q 1 set b sel c q a out y b", []int{50}},
		{"up by the rest", wide + "out y div up x 7", wide + "set q flr x 7 set m mul 7 q set c eq x m set a add q 1 set b sel c q a out y b", nil},
		{"by 2, 3 and 6", wide + "out y add div down x 2 add div down x 3 div down x 6", wide + "set q flr x 6 set m mul 6 q set r sub x m set c eq r 0 set d eq r 5 set a sub x 1 set b sub x 2 set e sel d b a set f sel c x e out y f", nil},
		{"a sum rounded late", two + "out o add div near x 100 div near y 100", two + "set a add x y set b add a 50 set c flr b 100 out o c", []int{1, 49}},
		{"12 times", two + "out o mul 12 div down add x y 12", two + "set s add x y set a mul 12 s set b flr a 12 set c flr b 12 set d mul 12 c out o d", nil},
		{"rests of 7, 11 and 13", zero, rests([2]int{7, 3}, [2]int{11, 5}, [2]int{13, 7}), []int{423}}, // 60*7 + 3 = 38*11 + 5 = 32*13 + 7
		{"rests that can't be", zero, rests([2]int{6, 3}, [2]int{10, 5}, [2]int{15, 7}), nil},
		{"rests beyond the range", zero, rests([2]int{997, 3}, [2]int{991, 5}, [2]int{983, 7}, [2]int{977, 7}), nil},
		{"one line", two + "out o 0", two + "set a mul 997 x set b mul 991 y set c sub a b set d eq c 1 set e lt 500000 x set f and d e set g sel f 1 0 out o g", []int{500290, 503319}},
		{"large divisors", two + "out o sub div down x 999983 div down x 999979", two + "out o 0", []int{999979, 0}},
		{"large divisors compared", two + "out o max -1 min 0 sub div down x 999983 div down y 999979", two + "set c flr x 999983 set d flr y 999979 set e lt c d set f sel e -1 0 out o f", nil},
	} {
		a, b := mustRead(t, c.high, c.low)
		home, found := First(a, b)
		if !slices.Equal(home, c.home) || found != (c.home != nil) {
			t.Errorf("%s: %v, %v, want %v", c.what, home, found, c.home)
		}
	}
}

// Without corners everything hangs on what takes longer.
func TestRestsWithoutCorners(t *testing.T) {
	for _, c := range []struct {
		low  string
		home []int
	}{
		{rests([2]int{7, 3}, [2]int{11, 5}, [2]int{13, 7}), []int{423}},
		{rests([2]int{97, 3}, [2]int{89, 5}, [2]int{83, 7}, [2]int{79, 11}), []int{4124443}},
		{rests([2]int{997, 3}, [2]int{991, 5}, [2]int{983, 7}), []int{595451274}},
		{rests([2]int{997, 3}, [2]int{991, 5}, [2]int{983, 7}, [2]int{977, 7}), nil},
		{wide + "set q flr x 100 set c eq q 0 set d sel c 0 1 out y d", []int{100}},
	} {
		a, b := mustRead(t, wide+"out y 0", c.low)
		home, found := byParts(a, b, nil, 0)
		if !slices.Equal(home, c.home) || found != (c.home != nil) {
			t.Errorf("%q: %v, %v, want %v", c.low, home, found, c.home)
		}
	}
}

var hardTexts = []string{
	"in income -1000000 1000000000 in kids 0 20 in rent 0 5000 let base max 0 sub income mul 900 kids let tax div near tab base 3 10000 14 60000 42 250000 45 100 let aid if and lt income 30000 not eq kids 0 mul 250 kids div up rent 3 out due if or le tax aid eq rent 5000 0 sub tax aid out paid min aid div zero tax 12 out rest div down sub income tax 7",
	four + "out a min min x y min z w out b max max x y max z w out c add add x y add z w",
	four + "let a tab x 4 10000 14 60000 42 250000 45 900000 50 let b tab y 4 10000 14 60000 42 250000 45 900000 50 out o div near add a b 100",
	four + "let a tab x 2 10000 14 60000 42 let b tab y 2 10000 14 60000 42 let c tab z 2 10000 14 60000 42 let d tab w 2 10000 14 60000 42 out o div near max 0 sub add add a b add c d 5000 100",
	two + "out o div down add div down x 7 div up y 3 5 out p div near sub mul 3 div zero x 10 div near y 7 12",
	two + "let a div down x 12 let b div near y 12 let c add a b let d max 0 sub c 450 let e div up mul 42 d 100 let f min e div down c 2 out n mul 12 f out m sub add x y mul 12 f",
	roundedTent(6), roundedTent(11),
}

// Each text is translated in several ways, and then changed at one place.
func TestHardTexts(t *testing.T) {
	for k, h := range hardTexts {
		p, errno, place := high.Read(h)
		if errno != api.OK {
			t.Fatalf("text %d: %d, %d", k, errno, place)
		}
		for turn := range 6 {
			m := &maker{state: uint64(turn)}
			l := m.translated(p)
			if turn >= 3 {
				l = m.changed(l)
			}
			a, b, ok := read(h, l)
			if !ok {
				continue
			}
			home, found := First(a, b)
			if found && turn < 3 {
				t.Errorf("text %d, turn %d: %v\n%s\n%s", k, turn, home, h, l)
			}
			m.tryLess(t, a, b, home, found)
		}
	}
}

// many adds up the lesser ones of an input and each of so many numbers, which are 12345 and its multiples.
func many(n int, in string, names []string) string {
	s := in + "out o"
	for k := range n {
		s += " add min " + names[k%len(names)] + " " + num((k+1)*12345)
	}
	return s + " 0"
}

func TestManyChoices(t *testing.T) {
	one := []string{"x"}
	all := []string{"x", "y", "z", "w"}
	for k, c := range []struct {
		high, low string
		home      []int
	}{
		{many(140, wide, one), wide + "out o 0", []int{1}},
		{many(140, wide, one), wide + "set a mul 140 x out o a", []int{12346}},
		{many(140, four, all), four + "set a add x y set b add z w set c add a b set d mul 35 c out o d", []int{0, 0, 0, 4*12345 + 1}},
		{many(140, "in x -1000000000 12345 ", one), "in x -1000000000 12345 set a mul 140 x out o a", nil},
		{many(140, "in x 1728300 1000000000 ", one), "in x 1728300 1000000000 out o 121845150", nil},
		{many(140, "in x 1728299 1000000000 ", one), "in x 1728299 1000000000 out o 121845150", []int{1728299}},
	} {
		a, b := mustRead(t, c.high, c.low)
		home, found := First(a, b)
		if !slices.Equal(home, c.home) || found != (c.home != nil) {
			t.Errorf("line %d: %v, %v, want %v", k, home, found, c.home)
		}
	}
}

// A sum of many rounded numbers is compared with two limits: the least number at which it is between them can be counted.
func TestSumsOfRoundedNumbers(t *testing.T) {
	primes := []int{3, 7, 11, 13, 17, 19, 23, 29, 31, 37, 41, 43}
	for n := 1; n <= len(primes); n++ {
		for more := range 3 {
			h, l, last := "", wide, "0"
			for i, p := range primes[:n] {
				h += "add div down x " + num(p) + " "
				l += "set q" + num(i) + " flr x " + num(p) + " set s" + num(i) + " add q" + num(i) + " " + last + " "
				last = "s" + num(i)
			}
			a, b := mustRead(t, wide+"out o if lt "+h+"0 100000 0 1", l+"set c lt "+last+" "+num(100000+more)+" set d sel c 0 1 out o d")
			var want []int
			for x := 0; x <= 300000 && want == nil; x++ {
				s := 0
				for _, p := range primes[:n] {
					s += x / p
				}
				if s >= 100000 && s < 100000+more {
					want = []int{x}
				}
			}
			home, found := First(a, b)
			if !slices.Equal(home, want) || found != (want != nil) {
				t.Errorf("%d numbers, %d more: %v, %v, want %v", n, more, home, found, want)
			}
		}
	}
}
