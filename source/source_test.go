package source

import (
	"strings"
	"testing"

	"statute/api"
	"statute/plan"
)

func TestPeekEndsAtTheLimit(t *testing.T) {
	r := New(strings.Repeat("x ", api.MaxTokens+5))
	for range api.MaxTokens + 3 {
		r.Skip()
	}
	if r.Place() != api.MaxTokens || r.Peek() != "" || r.AtEnd() {
		t.Errorf("beyond the limit: at %d, %q, end %v", r.Place(), r.Peek(), r.AtEnd())
	}
}

func TestPeekEndsAtTheEnd(t *testing.T) {
	r := New("a")
	if r.AtEnd() || r.Peek() != "a" {
		t.Fatalf("ahead of a token: %q, end %v", r.Peek(), r.AtEnd())
	}
	r.Skip()
	r.Skip()
	if r.Place() != 1 || r.Peek() != "" || !r.AtEnd() {
		t.Errorf("behind the last token: at %d, %q, end %v", r.Place(), r.Peek(), r.AtEnd())
	}
}

func TestNumberStaysWithinItsSpan(t *testing.T) {
	r := New("4 10 7")
	if _, ok := r.Number(5, 9); ok || r.Place() != 0 {
		t.Error("a number below its span was read")
	}
	r.Skip()
	if _, ok := r.Number(5, 9); ok || r.Place() != 1 {
		t.Error("a number above its span was read")
	}
	r.Skip()
	if n, ok := r.Number(7, 7); n != 7 || !ok || r.Place() != 3 {
		t.Error("a number within its span was not read")
	}
	if _, ok := r.Number(0, 9); ok {
		t.Error("a number was read behind the end")
	}
}

func TestNames(t *testing.T) {
	r := New("a a b b c")
	name, ok := r.NewName()
	if name != "a" || !ok {
		t.Fatal("the first name is not new")
	}
	r.Learn(name, 5)
	if _, ok := r.NewName(); ok || r.Place() != 1 {
		t.Error("a name is new twice")
	}
	if node, ok := r.Known(); node != 5 || !ok {
		t.Error("a name is not known")
	}
	name, _ = r.NewName()
	r.LearnOut(name, 6)
	if _, ok := r.NewName(); ok {
		t.Error("an out's name is new twice")
	}
	if _, ok := r.Known(); ok || r.Place() != 3 {
		t.Error("an out's name has a value")
	}
	r.Skip()
	if _, ok := r.Known(); ok {
		t.Error("a name that nobody learned is known")
	}
	if len(r.Plan.Outs) != 1 || r.Plan.Outs[0] != 6 {
		t.Errorf("the outs: %v", r.Plan.Outs)
	}
}

func TestInputs(t *testing.T) {
	r := New("in a -1 2 in b 3 3 out y a")
	if !r.Inputs() || r.Place() != 8 {
		t.Fatalf("two inputs: at %d", r.Place())
	}
	want := []plan.Span{{Lo: -1, Hi: 2}, {Lo: 3, Hi: 3}}
	if len(r.Plan.Inputs) != 2 || r.Plan.Inputs[0] != want[0] || r.Plan.Inputs[1] != want[1] {
		t.Errorf("two inputs: %v", r.Plan.Inputs)
	}
	for s, place := range map[string]int{
		"": 0, "out": 0, "in": 1, "in in": 1, "in a": 2, "in a a": 2, "in a 5": 3, "in a 5 4": 3, "in a 1 2 in a": 5,
	} {
		r := New(s)
		if r.Inputs() || r.Place() != place {
			t.Errorf("inputs of %q: at %d, want a fault at %d", s, r.Place(), place)
		}
	}
}
