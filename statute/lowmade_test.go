package statute_test

import (
	"math/big"
	"slices"
	"strconv"
	"strings"
	"testing"

	"statute/api"
	"statute/statute"
)

// lowText makes a text of the low form, and tells its ranges.
func (m *maker) lowText() []api.Range {
	var ranges []api.Range
	var flags []string
	for i := range m.between(1, api.MaxInputs) {
		lo := m.between(-40, 20)
		hi := lo + m.below(60)
		if m.below(3) == 0 {
			hi = m.between(lo, api.MaxNumber)
		}
		m.names = append(m.names, "i"+strconv.Itoa(i))
		m.put("in", m.names[i], strconv.Itoa(lo), strconv.Itoa(hi))
		ranges = append(ranges, api.Range{Lo: lo, Hi: hi})
	}
	for i := range m.below(api.MaxSteps + 1) {
		name := "s" + strconv.Itoa(i)
		m.put("set", name)
		if m.below(3) > 0 {
			m.valueStep(flags)
			m.names = append(m.names, name)
		} else {
			m.flagStep(flags)
			flags = append(flags, name)
		}
	}
	for i := range m.between(1, api.MaxOuts) {
		m.put("out", "o"+strconv.Itoa(i))
		m.argument()
	}
	return ranges
}

func (m *maker) argument() {
	if m.below(8) == 0 {
		m.putNumber(m.between(-50, 50))
		return
	}
	back := m.below(len(m.names))
	if m.below(3) > 0 {
		back = min(back, m.below(2)) // so that long chains come about
	}
	m.put(m.names[len(m.names)-1-back])
}

func (m *maker) valueStep(flags []string) {
	kind := m.below(5)
	if kind == 4 && len(flags) == 0 {
		kind = 0
	}
	if m.below(5) == 0 {
		kind = 2 // so that some texts are big
	}
	m.put([]string{"add", "sub", "mul", "flr", "sel"}[kind])
	switch kind {
	case 2:
		k := m.between(-4, 4)
		if m.below(2) == 0 {
			k = m.between(-api.MaxTimes, api.MaxTimes)
		}
		m.putNumber(k)
		m.argument()
	case 3:
		m.argument()
		m.putNumber(m.between(1, 30))
	case 4:
		m.put(flags[m.below(len(flags))])
		m.argument()
		m.argument()
	default:
		m.argument()
		m.argument()
	}
}

func (m *maker) flagStep(flags []string) {
	kind := m.below(6)
	if len(flags) == 0 {
		kind %= 3
	}
	m.put([]string{"lt", "le", "eq", "and", "or", "not"}[kind])
	if kind < 3 {
		m.argument()
		m.argument()
		return
	}
	m.put(flags[m.below(len(flags))])
	if kind < 5 {
		m.put(flags[m.below(len(flags))])
	}
}

// lowWorld: what the names of a text of the low form stand for, in numbers without a limit.
type lowWorld struct {
	values, bounds map[string]*big.Int
	flags          map[string]bool
	most           *big.Int
}

func (w *lowWorld) value(t string) *big.Int {
	if n, err := strconv.Atoi(t); err == nil {
		return whole(n)
	}
	return w.values[t]
}

func (w *lowWorld) bound(t string) *big.Int {
	if n, err := strconv.Atoi(t); err == nil {
		return size(n)
	}
	return w.bounds[t]
}

// step does one step, given as the tokens behind `set`.
func (w *lowWorld) step(list []string) {
	name, word, arg := list[0], list[1], list[2:]
	switch word {
	case "add":
		w.values[name] = plus(w.value(arg[0]), w.value(arg[1]))
		w.bounds[name] = plus(w.bound(arg[0]), w.bound(arg[1]))
	case "sub":
		w.values[name] = minus(w.value(arg[0]), w.value(arg[1]))
		w.bounds[name] = plus(w.bound(arg[0]), w.bound(arg[1]))
	case "mul":
		w.values[name] = times(w.value(arg[0]), w.value(arg[1]))
		w.bounds[name] = times(w.bound(arg[0]), w.bound(arg[1]))
	case "flr":
		w.values[name] = new(big.Int).Div(w.value(arg[0]), w.value(arg[1]))
		w.bounds[name] = w.bound(arg[0])
	case "sel":
		w.values[name] = w.value(arg[2])
		if w.flags[arg[0]] {
			w.values[name] = w.value(arg[1])
		}
		w.bounds[name] = larger(w.bound(arg[1]), w.bound(arg[2]))
	case "lt":
		w.flags[name] = w.value(arg[0]).Cmp(w.value(arg[1])) < 0
	case "le":
		w.flags[name] = w.value(arg[0]).Cmp(w.value(arg[1])) <= 0
	case "eq":
		w.flags[name] = w.value(arg[0]).Cmp(w.value(arg[1])) == 0
	case "and":
		w.flags[name] = w.flags[arg[0]] && w.flags[arg[1]]
	case "or":
		w.flags[name] = w.flags[arg[0]] || w.flags[arg[1]]
	case "not":
		w.flags[name] = !w.flags[arg[0]]
	}
	if b, ok := w.bounds[name]; ok {
		w.most = larger(w.most, b)
	}
}

// lowOracle does a right text line by line, and tells its outs and its greatest bound.
func lowOracle(lines []string, home []int) ([]*big.Int, *big.Int) {
	w := &lowWorld{map[string]*big.Int{}, map[string]*big.Int{}, map[string]bool{}, whole(0)}
	var told []*big.Int
	for i, line := range lines {
		list := strings.Fields(line)
		switch list[0] {
		case "in":
			w.values[list[1]] = whole(home[i])
			w.bounds[list[1]] = larger(new(big.Int).Abs(w.value(list[2])), new(big.Int).Abs(w.value(list[3])))
		case "set":
			w.step(list[1:])
		case "out":
			told = append(told, w.value(list[2]))
		}
	}
	return told, w.most
}

func (m *maker) lines() []string {
	s := strings.Join(m.tokens, " ")
	for _, w := range []string{"set", "in", "out"} {
		s = strings.ReplaceAll(s, " "+w+" ", "\n"+w+" ")
	}
	return strings.Split(s, "\n")
}

func TestMadeLowTexts(t *testing.T) {
	right, over := 0, 0
	for seed := range 3000 {
		m := &maker{state: uint64(seed)}
		ranges := m.lowText()
		lines := m.lines()
		s := strings.Join(lines, " ")
		for turn := range 8 {
			home := m.home(ranges)
			told, most := lowOracle(lines, home)
			want := api.OK
			if most.Cmp(whole(api.MaxValue)) > 0 {
				want = api.ErrBig
			}
			got, errno := statute.RunLow(s, home)
			if errno != want || errno == api.OK && !slices.Equal(got, wholes(told)) {
				t.Fatalf("P8: RunLow(%q, %v) = %v, %d, want %v, %d", s, home, got, errno, told, want)
			}
			if turn > 0 {
				continue
			}
			if errno, place := statute.CheckLow(s); errno != want || place != 0 {
				t.Fatalf("P6: CheckLow(%q) = %d, %d, want %d; the greatest bound is %v", s, errno, place, want, most)
			}
			if want != api.OK {
				over++
				break
			}
			right++
			if printed, _ := statute.PrintLow(s); printed != strings.Join(lines, "\n")+"\n" {
				t.Fatalf("P7: %q is printed as %q", s, printed)
			}
		}
	}
	if right < 1000 || over < 400 {
		t.Errorf("of the made texts %d are right and %d big: too few", right, over)
	}
}

func wholes(list []*big.Int) []int {
	var told []int
	for _, n := range list {
		told = append(told, int(n.Int64()))
	}
	return told
}
