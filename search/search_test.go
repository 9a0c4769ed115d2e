package search

import (
	"slices"
	"strings"
	"testing"

	"statute/api"
	"statute/high"
	"statute/low"
	"statute/plan"
)

// read reads a pair of texts; false if one of them has not its form, or they are no pair.
func read(h, l string) (plan.Plan, plan.Plan, bool) {
	a, errno, _ := high.Read(h)
	if errno != api.OK {
		return a, a, false
	}
	b, errno, _ := low.Read(l)
	return a, b, errno == api.OK && plan.IsPair(a, b)
}

func mustRead(t *testing.T, h, l string) (plan.Plan, plan.Plan) {
	t.Helper()
	a, b, ok := read(h, l)
	if !ok {
		t.Fatalf("no pair:\n%s\n%s", h, l)
	}
	return a, b
}

// byParts tells the least household by parts alone, with no limit to them.
func byParts(a, b plan.Plan, same []int, corners int) ([]int, bool) {
	s := begun(a, b, same, effort{noLimit, corners})
	home, outcome := s.run()
	return home, outcome == found
}

// Pairs that are the same, or nearly, over few households: each way of searching is held against trying all.
func TestSmallPairs(t *testing.T) {
	count, differing := 0, 0
	for seed := range 1600 {
		m := &maker{state: uint64(seed), span: 20, recent: seed%2 == 0, big: seed%5 == 0}
		inputs := m.between(1, 4)
		h, l := m.pair(inputs, []int{0, 200, 16, 7, 4}[inputs], m.below(6), m.between(1, 2), m.between(1, 3))
		for turn := range 3 {
			if turn > 0 {
				l = m.changed(l)
			}
			a, b, ok := read(h, l)
			if !ok {
				continue
			}
			count++
			want, differ := tried(a, b)
			if differ {
				differing++
			}
			got, found := byParts(a, b, nil, corners)
			if !slices.Equal(got, want) || found != differ {
				t.Fatalf("seed %d, turn %d:\n%s\n%s\n= %v, %v, want %v", seed, turn, h, l, got, found, want)
			}
			got, found = First(a, b)
			if !slices.Equal(got, want) || found != differ {
				t.Fatalf("seed %d, turn %d:\n%s\n%s\n= %v, %v by First, want %v", seed, turn, h, l, got, found, want)
			}
			if seed%8 > 0 {
				continue
			}
			got, found = byParts(a, b, nil, seed/8%6)
			if !slices.Equal(got, want) || found != differ {
				t.Fatalf("seed %d, turn %d:\n%s\n%s\n= %v, %v by few corners, want %v", seed, turn, h, l, got, found, want)
			}
			got, found = byParts(a, b, alike(a, b, nil), corners)
			if !slices.Equal(got, want) || found != differ {
				t.Fatalf("seed %d, turn %d:\n%s\n%s\n= %v, %v by what is alike, want %v", seed, turn, h, l, got, found, want)
			}
		}
	}
	if count < 3500 || differing < 700 || count-differing < 1500 {
		t.Errorf("of %d pairs %d differ", count, differing)
	}
}

// Pairs over a thousand million numbers: what is translated is the same, and where something was changed, the household
// that is told is one at which they differ, and many that are less are none.
func TestWidePairs(t *testing.T) {
	count, differing := 0, 0
	for seed := range 500 {
		m := &maker{state: uint64(seed), span: []int{100, 100000, 100000000}[seed%3], recent: seed%2 == 0, big: seed%5 < 2}
		h, l := m.pair(m.between(1, 4), 1000000000, m.below(9), m.between(1, 3), m.between(1, 3))
		for turn := range 3 {
			if turn > 0 {
				l = m.changed(l)
			}
			a, b, ok := read(h, l)
			if !ok {
				continue
			}
			count++
			home, found := First(a, b)
			if found && turn == 0 {
				t.Fatalf("seed %d:\n%s\n%s\n= %v, want the same", seed, h, l, home)
			}
			if found {
				differing++
			}
			m.tryLess(t, a, b, home, found)
		}
	}
	if count < 1000 || differing < 250 {
		t.Errorf("of %d pairs %d differ", count, differing)
	}
}

// tryLess tries households that are less than the one that was found, near it and far from it; or any, if none was.
func (m *maker) tryLess(t *testing.T, a, b plan.Plan, home []int, found bool) {
	t.Helper()
	if found && (!a.IsHome(home) || plan.FirstParting(a, b, home) < 0) {
		t.Fatalf("%v, %v do not differ at %v", a, b, home)
	}
	for k := range 60 {
		try := make([]int, len(a.Inputs))
		for i, s := range a.Inputs {
			try[i] = m.between(s.Lo, s.Hi)
			if k%2 == 0 && found {
				try[i] = max(s.Lo, min(s.Hi, home[i]+m.between(-3, 1)))
			}
			if k%3 == 0 && found {
				try[i] = home[i] - m.below(2)*m.below(2)
			}
		}
		if a.IsHome(try) && (!found || slices.Compare(try, home) < 0) && plan.FirstParting(a, b, try) >= 0 {
			t.Fatalf("%v, %v differ at %v, which is less than %v", a, b, try, home)
		}
	}
}

func TestGivenUp(t *testing.T) {
	a, b := mustRead(t, minTent(8), lowTent(8))
	s := begun(a, b, nil, effort{20, corners})
	home, outcome := s.run()
	if outcome != open || home != nil || s.looked > 25 {
		t.Errorf("%v, %d after %d parts", home, outcome, s.looked)
	}
	if _, found := First(a, b); found {
		t.Error("tents of two kinds differ")
	}
}

func TestTried(t *testing.T) {
	a, b := mustRead(t, "in x -2 3 in y 5 7 out o add x y", "in x -2 3 in y 5 7 set a add x y set c eq a 10 set d sel c 0 a out o d")
	if home, found := tried(a, b); !found || !slices.Equal(home, []int{3, 7}) {
		t.Errorf("%v, %v", home, found)
	}
	if home, found := tried(a, a); found || home != nil {
		t.Errorf("%v, %v", home, found)
	}
	if !areFew(a, 18) || areFew(a, 17) {
		t.Error("18 households are few up to 18")
	}
	wide, _, _ := high.Read("in a -1000000000 1000000000 in b -1000000000 1000000000 in c -1000000000 1000000000 in d -1000000000 1000000000 out o a")
	if areFew(wide, 1<<62) {
		t.Error("all households are few")
	}
}

// Claims come out in the order of their households.
func TestHeap(t *testing.T) {
	m := &maker{state: 5}
	for range 200 {
		var h heap
		var want [][]int
		for range m.below(40) {
			home := []int{m.below(5), m.below(5)}
			want = append(want, home)
			h.push(claim{home: home})
			if m.below(4) == 0 {
				slices.SortFunc(want, slices.Compare[[]int])
				if got := h.pop(); !slices.Equal(got.home, want[0]) {
					t.Fatalf("%v, want %v", got.home, want[0])
				}
				want = want[1:]
			}
		}
		slices.SortFunc(want, slices.Compare[[]int])
		for _, home := range want {
			if got := h.pop(); !slices.Equal(got.home, home) {
				t.Fatalf("%v, want %v", got.home, home)
			}
		}
	}
}

// What is the same but for one household, and takes long to look at, is not alike.
func TestNotAlike(t *testing.T) {
	h, l := greatest(12, 0)
	one := "set e eq x 123456789 set g eq y 987654321 set h and e g set i add 1 m0 set j sel h i m0 out o j"
	a, b := mustRead(t, h, strings.Replace(l, "out o m0", one, 1))
	s := begun(a, b, nil, effort{aFew, corners})
	if _, outcome := s.run(); outcome != open {
		t.Errorf("this does not take long: %d", outcome)
	}
	like := &likeness{high: a, low: b}
	like.learn(spreadHome(a, 0))
	if at := like.find(b.Outs[0]); at != nowhere {
		t.Errorf("the last node is like node %d", at)
	}
	home, found := First(a, b)
	if !found || !slices.Equal(home, []int{123456789, 987654321, 0, 0}) {
		t.Errorf("%v, %v", home, found)
	}
}

// What was found to be alike always comes to the same.
func TestAlike(t *testing.T) {
	pairs := 0
	for seed := range 300 {
		m := &maker{state: uint64(seed), span: 30, recent: true}
		h, l := m.pair(m.between(1, 2), 12, m.between(2, 8), 1, 2)
		if seed%2 == 0 {
			l = m.changed(l)
		}
		a, b, ok := read(h, l)
		if !ok {
			continue
		}
		same := alike(a, b, nil)
		highs, lows := allTold(a), allTold(b)
		home := spreadHome(a, 0)
		for more := true; more; more = next(a, home) {
			x, y := highs.Run(home), lows.Run(home)
			for i, at := range same {
				if at >= 0 && x[at] != y[i] {
					t.Fatalf("%s\n%s\nat %v: node %d is %d, node %d is %d", h, l, home, at, x[at], i, y[i])
				}
			}
		}
		for _, at := range same {
			if at >= 0 {
				pairs++
			}
		}
	}
	if pairs < 300 {
		t.Errorf("only %d nodes are alike", pairs)
	}
}
