package statute_test

import (
	"math/big"
	"slices"
	"strconv"
	"strings"
	"testing"

	"statute/api"
	"statute/statute"
)

// maker makes texts from a row of numbers that is always the same, and beside each what the document says of it, in
// numbers without a limit.
type maker struct {
	state  uint64
	tokens []string
	names  []string
	values []func(home []int) *big.Int
	bounds []*big.Int
	most   *big.Int
}

func (m *maker) below(n int) int {
	m.state = m.state*6364136223846793005 + 1442695040888963407
	return int(m.state>>33) % n
}

func (m *maker) between(lo, hi int) int { return lo + m.below(hi-lo+1) }

func (m *maker) put(list ...string) { m.tokens = append(m.tokens, list...) }

func (m *maker) putNumber(n int) { m.put(strconv.Itoa(n)) }

type made struct {
	value func(home []int) *big.Int
	bound *big.Int
}

func whole(n int) *big.Int { return big.NewInt(int64(n)) }

func plus(a, b *big.Int) *big.Int { return new(big.Int).Add(a, b) }

func minus(a, b *big.Int) *big.Int { return new(big.Int).Sub(a, b) }

func times(a, b *big.Int) *big.Int { return new(big.Int).Mul(a, b) }

func size(n int) *big.Int { return new(big.Int).Abs(whole(n)) }

func larger(a, b *big.Int) *big.Int {
	if a.Cmp(b) > 0 {
		return a
	}
	return b
}

func smaller(a, b *big.Int) *big.Int {
	if a.Cmp(b) < 0 {
		return a
	}
	return b
}

// byParts rounds through fractions: the greatest whole number at most e/d (big.Int's Div is that for d above 0).
func byParts(mode string, e *big.Int, d int) *big.Int {
	parts := whole(d)
	down := new(big.Int).Div(e, parts)
	rest := minus(e, times(down, parts))
	above := plus(down, whole(1))
	if rest.Sign() == 0 || mode == "down" {
		return down
	}
	if mode == "up" || mode == "zero" && e.Sign() < 0 || mode == "near" && plus(rest, rest).Cmp(parts) >= 0 {
		return above
	}
	return down
}

func (m *maker) expression(depth int) made {
	x := m.anyExpression(depth)
	m.most = larger(m.most, x.bound)
	return x
}

func (m *maker) anyExpression(depth int) made {
	kind := m.below(10)
	if depth == 0 {
		kind = m.below(3)
	}
	switch kind {
	case 0:
		n := m.between(-50, 50)
		if m.below(9) == 0 {
			n = m.between(-api.MaxNumber, api.MaxNumber)
		}
		m.putNumber(n)
		return made{func([]int) *big.Int { return whole(n) }, size(n)}
	case 1, 2:
		i := m.below(len(m.names))
		m.put(m.names[i])
		return made{m.values[i], m.bounds[i]}
	case 3, 4, 5:
		return m.pair(depth)
	case 6:
		k := m.between(-9, 9)
		if m.below(2) == 0 {
			k = m.between(-api.MaxTimes, api.MaxTimes)
		}
		m.put("mul", strconv.Itoa(k))
		e := m.expression(depth - 1)
		return made{func(h []int) *big.Int { return times(whole(k), e.value(h)) }, times(size(k), e.bound)}
	case 7:
		m.put("if")
		c := m.condition(depth - 1)
		a := m.expression(depth - 1)
		b := m.expression(depth - 1)
		return made{func(h []int) *big.Int {
			if c(h) {
				return a.value(h)
			}
			return b.value(h)
		}, larger(a.bound, b.bound)}
	case 8:
		mode := []string{"down", "up", "zero", "near"}[m.below(4)]
		m.put("div", mode)
		e := m.expression(depth - 1)
		d := m.between(1, 12)
		m.putNumber(d)
		return made{func(h []int) *big.Int { return byParts(mode, e.value(h), d) }, e.bound}
	}
	return m.table(depth)
}

func (m *maker) pair(depth int) made {
	word := []string{"add", "sub", "min", "max"}[m.below(4)]
	m.put(word)
	a := m.expression(depth - 1)
	b := m.expression(depth - 1)
	switch word {
	case "add":
		return made{func(h []int) *big.Int { return plus(a.value(h), b.value(h)) }, plus(a.bound, b.bound)}
	case "sub":
		return made{func(h []int) *big.Int { return minus(a.value(h), b.value(h)) }, plus(a.bound, b.bound)}
	case "min":
		return made{func(h []int) *big.Int { return smaller(a.value(h), b.value(h)) }, larger(a.bound, b.bound)}
	}
	return made{func(h []int) *big.Int { return larger(a.value(h), b.value(h)) }, larger(a.bound, b.bound)}
}

func (m *maker) table(depth int) made {
	m.put("tab")
	e := m.expression(depth - 1)
	n := m.between(1, api.MaxBands)
	m.putNumber(n)
	var from, rate []int
	at := m.between(-30, 10)
	bound := whole(0)
	for range n {
		from = append(from, at)
		rate = append(rate, m.between(-20, 20)*m.between(1, 50))
		last := len(from) - 1
		m.putNumber(at)
		m.putNumber(rate[last])
		bound = plus(bound, times(size(rate[last]), plus(e.bound, size(at))))
		at += m.between(1, 30)
	}
	return made{func(h []int) *big.Int {
		sum := whole(0)
		for i := range from {
			part := minus(e.value(h), whole(from[i]))
			if i+1 < len(from) {
				part = minus(smaller(e.value(h), whole(from[i+1])), whole(from[i]))
			}
			sum = plus(sum, times(whole(rate[i]), larger(part, whole(0))))
		}
		return sum
	}, bound}
}

func (m *maker) condition(depth int) func([]int) bool {
	kind := m.below(6)
	if depth <= 0 {
		kind = m.below(3)
	}
	word := []string{"lt", "le", "eq", "and", "or", "not"}[kind]
	m.put(word)
	if kind < 3 {
		a := m.expression(max(depth-1, 0))
		b := m.expression(max(depth-1, 0))
		return func(h []int) bool {
			c := a.value(h).Cmp(b.value(h))
			return kind == 0 && c < 0 || kind == 1 && c <= 0 || kind == 2 && c == 0
		}
	}
	a := m.condition(depth - 1)
	if kind == 5 {
		return func(h []int) bool { return !a(h) }
	}
	b := m.condition(depth - 1)
	if kind == 3 {
		return func(h []int) bool { return a(h) && b(h) }
	}
	return func(h []int) bool { return a(h) || b(h) }
}

// text makes a whole text, and tells its ranges and its outs.
func (m *maker) text() ([]api.Range, []made) {
	var ranges []api.Range
	m.most = whole(0)
	for i := range m.between(1, api.MaxInputs) {
		lo := m.between(-40, 20)
		hi := lo + m.below(60)
		if m.below(3) == 0 {
			hi = m.between(lo, api.MaxNumber)
		}
		name := "i" + strconv.Itoa(i)
		m.put("in", name, strconv.Itoa(lo), strconv.Itoa(hi))
		ranges = append(ranges, api.Range{Lo: lo, Hi: hi})
		m.learn(name, made{func(h []int) *big.Int { return whole(h[i]) }, larger(size(lo), size(hi))})
	}
	for i := range m.below(8) {
		name := "l" + strconv.Itoa(i)
		m.put("let", name)
		m.learn(name, m.expression(m.below(6)))
	}
	var told []made
	for i := range m.between(1, api.MaxOuts) {
		m.put("out", "o"+strconv.Itoa(i))
		told = append(told, m.expression(m.below(6)))
	}
	return ranges, told
}

func (m *maker) learn(name string, x made) {
	m.names = append(m.names, name)
	m.values = append(m.values, x.value)
	m.bounds = append(m.bounds, x.bound)
}

func (m *maker) home(ranges []api.Range) []int {
	var home []int
	for _, r := range ranges {
		home = append(home, m.between(r.Lo, r.Hi))
	}
	return home
}

func (m *maker) tryHomes(t *testing.T, s string, ranges []api.Range, told []made) {
	t.Helper()
	for range 8 {
		home := m.home(ranges)
		var want []int
		for _, x := range told {
			want = append(want, int(x.value(home).Int64()))
		}
		got, errno := statute.RunHigh(s, home)
		if errno != api.OK || !slices.Equal(got, want) {
			t.Fatalf("P5: RunHigh(%q, %v) = %v, %d, want %v", s, home, got, errno, want)
		}
	}
}

func TestMadeTexts(t *testing.T) {
	right, over := 0, 0
	for seed := range 4000 {
		m := &maker{state: uint64(seed)}
		ranges, told := m.text()
		s := strings.Join(m.tokens, " ")
		if len(m.tokens) > api.MaxTokens || len(s) > api.MaxText {
			continue
		}
		want := api.OK
		if m.most.Cmp(whole(api.MaxValue)) > 0 {
			want = api.ErrBig
			over++
		}
		errno, place := statute.CheckHigh(s)
		if errno != want || place != 0 {
			t.Fatalf("P3: CheckHigh(%q) = %d, %d, want %d; the greatest bound is %v", s, errno, place, want, m.most)
		}
		if errno != api.OK {
			continue
		}
		right++
		m.tryHomes(t, s, ranges, told)
		printed, _ := statute.PrintHigh(s)
		if strings.Join(strings.Fields(printed), " ") != s {
			t.Fatalf("P4: %q is printed as %q", s, printed)
		}
	}
	if right < 2000 || over < 100 {
		t.Errorf("of the made texts %d are right and %d big: too few", right, over)
	}
}
