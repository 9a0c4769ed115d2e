package search

import (
	"strconv"
	"strings"
)

// maker makes pairs of texts from a row of numbers that is always the same: one of the high form, and one of the low form
// that says the same in one of many ways, or nearly the same.
type maker struct {
	state  uint64
	names  []string // of inputs and lets
	high   []string // tokens
	low    []string
	steps  int
	args   []string // what the names are in the low text
	span   int      // how far numbers go
	recent bool     // whether the last names are taken most often
	big    bool     // whether factors and divisors are great
}

func (m *maker) below(n int) int {
	m.state = m.state*6364136223846793005 + 1442695040888963407
	return int(m.state>>33) % n
}

func (m *maker) between(lo, hi int) int { return lo + m.below(hi-lo+1) }

func (m *maker) put(list ...string) { m.high = append(m.high, list...) }

// step adds a step to the low text and tells its name.
func (m *maker) step(list ...string) string {
	m.steps++
	name := "s" + strconv.Itoa(m.steps)
	m.low = append(m.low, "set", name)
	m.low = append(m.low, list...)
	return name
}

func num(n int) string { return strconv.Itoa(n) }

// expression makes an expression, and tells what it is in the low text.
func (m *maker) expression(depth int) string {
	kind := m.below(14)
	if depth == 0 {
		kind = m.below(3)
	}
	switch kind {
	case 0:
		n := num(m.between(-m.span, m.span))
		m.put(n)
		return n
	case 1, 2:
		i := m.below(len(m.names))
		if m.recent && m.below(3) > 0 {
			i = len(m.names) - 1 - m.below(min(3, len(m.names)))
		}
		m.put(m.names[i])
		return m.args[i]
	case 3, 4:
		m.put("add")
		a := m.expression(depth - 1)
		b := m.expression(depth - 1)
		if m.below(2) == 0 {
			return m.step("add", b, a)
		}
		return m.step("add", a, b)
	case 5:
		m.put("sub")
		a := m.expression(depth - 1)
		b := m.expression(depth - 1)
		if m.below(3) == 0 {
			return m.step("add", a, m.step("mul", "-1", b))
		}
		return m.step("sub", a, b)
	case 6:
		k := m.between(-4, 9)
		if m.big {
			k = m.between(-300, 1000)
		}
		m.put("mul", num(k))
		a := m.expression(depth - 1)
		if k == 2 {
			return m.step("add", a, a)
		}
		return m.step("mul", num(k), a)
	case 7:
		m.put("min")
		a := m.expression(depth - 1)
		b := m.expression(depth - 1)
		return m.lesser(a, b, true)
	case 8:
		m.put("max")
		a := m.expression(depth - 1)
		b := m.expression(depth - 1)
		return m.lesser(a, b, false)
	case 9, 10:
		m.put("if")
		c := m.condition(depth - 1)
		a := m.expression(depth - 1)
		b := m.expression(depth - 1)
		if m.below(3) == 0 {
			return m.step("sel", m.step("not", c), b, a)
		}
		return m.step("sel", c, a, b)
	case 11, 12:
		return m.quotient(depth)
	}
	return m.table(depth)
}

func (m *maker) lesser(a, b string, least bool) string {
	word := []string{"lt", "le"}[m.below(2)]
	if m.below(2) == 0 {
		a, b = b, a
	}
	if least {
		return m.step("sel", m.step(word, a, b), a, b)
	}
	return m.step("sel", m.step(word, a, b), b, a)
}

func (m *maker) quotient(depth int) string {
	mode := []string{"down", "up", "zero", "near"}[m.below(4)]
	m.put("div", mode)
	a := m.expression(depth - 1)
	d := m.between(1, 12)
	if m.below(3) == 0 {
		d = m.between(1, 1000)
	}
	if m.big {
		d = m.between(1, []int{10, 1000, 1000000}[m.below(3)])
	}
	m.put(num(d))
	switch mode {
	case "down":
		return m.step("flr", a, num(d))
	case "up":
		return m.up(a, d)
	case "zero":
		return m.zero(a, d)
	}
	if m.below(2) == 0 {
		return m.step("flr", m.step("add", a, num(d/2)), num(d))
	}
	return m.step("flr", m.step("add", m.step("mul", "2", a), num(d)), num(2*d))
}

func (m *maker) up(a string, d int) string {
	if m.below(2) == 0 {
		return m.step("flr", m.step("add", a, num(d-1)), num(d))
	}
	return m.step("sub", "0", m.step("flr", m.step("sub", "0", a), num(d)))
}

func (m *maker) zero(a string, d int) string {
	c := m.step("lt", a, "0")
	if m.below(2) == 0 {
		return m.step("flr", m.step("sel", c, m.step("add", a, num(d-1)), a), num(d))
	}
	return m.step("sel", c, m.up(a, d), m.step("flr", a, num(d)))
}

func (m *maker) table(depth int) string {
	m.put("tab")
	a := m.expression(depth - 1)
	n := m.between(1, 4)
	m.put(num(n))
	var from, rate []int
	at := m.between(-m.span, m.span)
	for range n {
		from = append(from, at)
		rate = append(rate, m.between(-3, 12))
		m.put(num(at), num(rate[len(rate)-1]))
		at += m.between(1, m.span)
	}
	return m.tableSteps(a, from, rate)
}

func (m *maker) tableSteps(a string, from, rate []int) string {
	if m.below(2) == 0 {
		return m.hinges(a, from, rate)
	}
	told := "0"
	base := 0
	for i := range from {
		if i > 0 {
			base += rate[i-1] * (from[i] - from[i-1])
		}
		c := m.step([]string{"lt", "le"}[m.below(2)], a, num(from[i]))
		v := m.step("mul", num(rate[i]), m.step("sub", a, num(from[i])))
		told = m.step("sel", c, told, m.step("add", num(base), v))
	}
	return told
}

// hinges tells a table as a sum: from each band on, the rate changes.
func (m *maker) hinges(a string, from, rate []int) string {
	told := "0"
	last := 0
	for i := range from {
		over := m.step("sub", a, num(from[i]))
		c := m.step([]string{"lt", "le"}[m.below(2)], over, "0")
		over = m.step("sel", c, "0", over)
		told = m.step("add", told, m.step("mul", num(rate[i]-last), over))
		last = rate[i]
	}
	return told
}

func (m *maker) condition(depth int) string {
	kind := m.below(6)
	if depth <= 0 {
		kind = m.below(3)
	}
	word := []string{"lt", "le", "eq", "and", "or", "not"}[kind]
	m.put(word)
	if kind < 3 {
		a := m.expression(max(depth-1, 0))
		b := m.expression(max(depth-1, 0))
		switch {
		case kind == 0 && m.below(2) == 0:
			return m.step("not", m.step("le", b, a))
		case kind == 1 && m.below(2) == 0:
			return m.step("not", m.step("lt", b, a))
		case kind == 2 && m.below(2) == 0:
			return m.step("and", m.step("le", b, a), m.step("le", a, b))
		}
		return m.step(word, a, b)
	}
	a := m.condition(depth - 1)
	if kind == 5 {
		return m.step("not", a)
	}
	b := m.condition(depth - 1)
	return m.step(word, a, b)
}

// pair makes a pair of texts: ranges of so many numbers, so many lets of a depth.
func (m *maker) pair(inputs, width, lets, outs, depth int) (string, string) {
	for i := range inputs {
		lo := m.between(-width/2, 0)
		if m.below(2) == 0 {
			lo = 0
		}
		name := "i" + num(i)
		head := []string{"in", name, num(lo), num(lo + width - 1)}
		m.put(head...)
		m.low = append(m.low, head...)
		m.names = append(m.names, name)
		m.args = append(m.args, name)
	}
	for i := range lets {
		name := "l" + num(i)
		m.put("let", name)
		m.args = append(m.args, m.expression(depth))
		m.names = append(m.names, name)
	}
	var tail []string
	for i := range outs {
		name := "o" + num(i)
		m.put("out", name)
		tail = append(tail, "out", name, m.expression(depth))
	}
	m.low = append(m.low, tail...)
	return strings.Join(m.high, " "), strings.Join(m.low, " ")
}

// changed changes one token of a text of the low form behind its inputs, so that it mostly still has the form.
func (m *maker) changed(low string) string {
	list := strings.Fields(low)
	for range 200 {
		i := m.below(len(list))
		if list[max(i-2, 0)] == "in" || list[max(i-3, 0)] == "in" {
			continue
		}
		if n, err := strconv.Atoi(list[i]); err == nil {
			list[i] = num(n + []int{1, -1, 2, 10}[m.below(4)])
			return strings.Join(list, " ")
		}
		other := map[string]string{"lt": "le", "le": "lt", "add": "sub", "sub": "add", "and": "or", "or": "and"}[list[i]]
		if other != "" {
			list[i] = other
			return strings.Join(list, " ")
		}
	}
	return low
}
