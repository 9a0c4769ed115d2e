package source

import (
	"slices"
	"strings"
	"testing"

	"statute/api"
	"statute/plan"
)

func TestPeekEndsAtTheLimit(t *testing.T) {
	r := New(strings.Repeat("x ", api.MaxTokens+5))
	for range api.MaxTokens + 3 {
		r.Skip()
	}
	if r.at != api.MaxTokens || r.Peek() != "" || r.AtEnd() {
		t.Errorf("beyond the limit: at %d, %q, end %v", r.at, r.Peek(), r.AtEnd())
	}
}

func TestPeekEndsAtTheEnd(t *testing.T) {
	r := New("a")
	if r.AtEnd() || r.Peek() != "a" {
		t.Fatalf("ahead of a token: %q, end %v", r.Peek(), r.AtEnd())
	}
	r.Skip()
	r.Skip()
	if r.at != 1 || r.Peek() != "" || !r.AtEnd() {
		t.Errorf("behind the last token: at %d, %q, end %v", r.at, r.Peek(), r.AtEnd())
	}
}

func TestNumberStaysWithinItsSpan(t *testing.T) {
	r := New("4 10 7")
	if _, ok := r.Number(5, 9); ok || r.at != 0 {
		t.Error("a number below its span was read")
	}
	r.Skip()
	if _, ok := r.Number(5, 9); ok || r.at != 1 {
		t.Error("a number above its span was read")
	}
	r.Skip()
	if n, ok := r.Number(7, 7); n != 7 || !ok || r.at != 3 {
		t.Error("a number within its span was not read")
	}
	if _, ok := r.Number(0, 9); ok {
		t.Error("a number was read behind the end")
	}
}

func TestNames(t *testing.T) {
	r := New("a a b b c")
	name, ok := r.NewName()
	if name != "a" || !ok {
		t.Fatal("the first name is not new")
	}
	r.LearnValue(name, 5)
	if _, ok := r.NewName(); ok || r.at != 1 {
		t.Error("a name is new twice")
	}
	if node, ok := r.Argument(); node != 5 || !ok {
		t.Error("a name is not known")
	}
	name, _ = r.NewName()
	r.LearnOut(name, 6)
	if _, ok := r.NewName(); ok {
		t.Error("an out's name is new twice")
	}
	if _, ok := r.Argument(); ok || r.at != 3 {
		t.Error("an out's name has a value")
	}
	if _, ok := r.Flag(); ok || r.at != 3 {
		t.Error("an out's name is a flag")
	}
	r.Skip()
	if _, ok := r.Argument(); ok {
		t.Error("a name that nobody learned is known")
	}
	if len(r.Plan.Outs) != 1 || r.Plan.Outs[0] != 6 {
		t.Errorf("the outs: %v", r.Plan.Outs)
	}
}

func TestFlagsAndValuesAreTwoKinds(t *testing.T) {
	r := New("f v f v")
	r.LearnFlag("f", 3)
	r.LearnValue("v", 4)
	if _, ok := r.Argument(); ok || r.at != 0 {
		t.Error("a flag has a value")
	}
	if _, ok := r.NewName(); ok || r.at != 0 {
		t.Error("a flag's name is new")
	}
	if node, ok := r.Flag(); node != 3 || !ok {
		t.Error("a flag is not known")
	}
	if _, ok := r.Flag(); ok || r.at != 1 {
		t.Error("a value is a flag")
	}
	if node, ok := r.Argument(); node != 4 || !ok {
		t.Error("a value is not known")
	}
}

func TestArgumentOfANumber(t *testing.T) {
	r := New("-1000000000 1000000001")
	node, ok := r.Argument()
	if !ok || node != 0 || len(r.Plan.Nodes) != 1 || r.Plan.Nodes[0].Op != plan.Number || r.Plan.Nodes[0].K != -1000000000 {
		t.Errorf("a number: node %d, %v of %v", node, ok, r.Plan.Nodes)
	}
	if _, ok := r.Argument(); ok || r.at != 1 || len(r.Plan.Nodes) != 1 {
		t.Error("a number above the limit was read")
	}
}

func TestResult(t *testing.T) {
	r := New("in a 0 1000000000 ?")
	r.Inputs()
	if p, errno, place := r.Result(false); errno != api.ErrForm || place != 4 || len(p.Inputs) != 0 {
		t.Errorf("of a wrong text: %v, %d, %d", p, errno, place)
	}
	if p, errno, place := r.Result(true); errno != api.OK || place != 0 || len(p.Inputs) != 1 {
		t.Errorf("of a right text: %v, %d, %d", p, errno, place)
	}
	for range 3 {
		r.Plan.Append(plan.Node{Op: plan.Mul, A: len(r.Plan.Nodes) - 1, K: 1000})
	}
	if p, errno, place := r.Result(true); errno != api.ErrBig || place != 0 || len(p.Inputs) != 0 {
		t.Errorf("of a big text: %v, %d, %d", p, errno, place)
	}
	if _, errno, place := r.Result(false); errno != api.ErrForm || place != 4 {
		t.Errorf("of a text wrong and big: %d, %d", errno, place)
	}
}

func TestInputs(t *testing.T) {
	r := New("in a -1 2 in b 3 3 out y a")
	if !r.Inputs() || r.at != 8 {
		t.Fatalf("two inputs: at %d", r.at)
	}
	want := []plan.Span{{Lo: -1, Hi: 2}, {Lo: 3, Hi: 3}}
	if len(r.Plan.Inputs) != 2 || r.Plan.Inputs[0] != want[0] || r.Plan.Inputs[1] != want[1] {
		t.Errorf("two inputs: %v", r.Plan.Inputs)
	}
	for s, place := range map[string]int{
		"": 0, "out": 0, "in": 1, "in in": 1, "in a": 2, "in a a": 2, "in a 5": 3, "in a 5 4": 3, "in a 1 2 in a": 5,
	} {
		r := New(s)
		if r.Inputs() || r.at != place {
			t.Errorf("inputs of %q: at %d, want a fault at %d", s, r.at, place)
		}
	}
}

func TestNamesOfInputsAndOuts(t *testing.T) {
	r := New("in x 0 9 in k 0 3")
	if !r.Inputs() {
		t.Fatal("no inputs")
	}
	r.LearnOut("y", 0)
	r.LearnOut("z", 1)
	if !slices.Equal(r.Plan.InputNames, []string{"x", "k"}) || !slices.Equal(r.Plan.OutNames, []string{"y", "z"}) {
		t.Errorf("%v, %v", r.Plan.InputNames, r.Plan.OutNames)
	}
}
