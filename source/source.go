// Package source: reading a text token by token into a plan, as far as both forms have it in common.
package source

import (
	"statute/api"
	"statute/plan"
	"statute/token"
)

// kind says what a name stands for.
type kind int

const (
	value kind = iota
	flag
	told // an out: the name must not be used again, but stands for nothing
)

type entry struct {
	name string
	kind kind
	node int
}

// Reader stands ahead of one token of a text. No method moves it past a token that may not stand there: so, when one of
// them answers false, it stands at the place of the fault.
type Reader struct {
	Plan    plan.Plan
	tokens  []string
	at      int
	entries []entry
}

// New tells a reader at the head of a text.
func New(s string) *Reader {
	return &Reader{tokens: token.Split(s)}
}

// AtEnd tells whether there is no further token.
func (r *Reader) AtEnd() bool {
	return r.at >= len(r.tokens)
}

// Peek tells the token ahead; it is empty if there is none, or none may be there.
func (r *Reader) Peek() string {
	if r.at >= len(r.tokens) || r.at >= api.MaxTokens {
		return ""
	}
	return r.tokens[r.at]
}

// Skip moves past the token that Peek told.
func (r *Reader) Skip() {
	if r.Peek() != "" {
		r.at++
	}
}

// Word reads one certain token.
func (r *Reader) Word(word string) bool {
	if r.Peek() != word {
		return false
	}
	r.Skip()
	return true
}

// Number reads a number from lo to hi.
func (r *Reader) Number(lo, hi int) (int, bool) {
	t := r.Peek()
	n, ok := token.Number(t)
	if !ok || n < lo || n > hi {
		return 0, false
	}
	r.Skip()
	return n, true
}

// NewName reads a new name.
func (r *Reader) NewName() (string, bool) {
	name := r.Peek()
	if !token.IsName(name) {
		return "", false
	}
	if r.find(name) < len(r.entries) {
		return "", false
	}
	r.Skip()
	return name, true
}

// LearnValue keeps a name whose value is a node.
func (r *Reader) LearnValue(name string, node int) {
	r.entries = append(r.entries, entry{name, value, node})
}

// LearnFlag keeps a name that holds or not, as a node says.
func (r *Reader) LearnFlag(name string, node int) {
	r.entries = append(r.entries, entry{name, flag, node})
}

// LearnOut keeps the name of an out, which nothing may use, and its node.
func (r *Reader) LearnOut(name string, node int) {
	r.entries = append(r.entries, entry{name, told, node})
	r.Plan.Outs = append(r.Plan.Outs, node)
	r.Plan.OutNames = append(r.Plan.OutNames, name)
}

// Argument reads a number, or a name that has a value, and tells its node.
func (r *Reader) Argument() (int, bool) {
	k, ok := r.Number(-api.MaxNumber, api.MaxNumber)
	if ok {
		return r.Plan.Append(plan.Node{Op: plan.Number, K: k}), true
	}
	return r.known(value)
}

// Flag reads the name of a flag, and tells its node.
func (r *Reader) Flag() (int, bool) {
	return r.known(flag)
}

// known reads a name of one kind.
func (r *Reader) known(k kind) (int, bool) {
	name := r.Peek()
	i := r.find(name)
	if i >= len(r.entries) || r.entries[i].kind != k {
		return 0, false
	}
	r.Skip()
	return r.entries[i].node, true
}

// find tells where a name is kept, or how many are kept if it is not.
func (r *Reader) find(name string) int {
	i := 0
	for i < len(r.entries) && r.entries[i].name != name {
		i++
	}
	return i
}

// Inputs reads the inputs at the head of a text.
func (r *Reader) Inputs() bool {
	for n := 0; n < api.MaxInputs; n++ {
		if !r.Word("in") {
			return n > 0
		}
		if !r.input() {
			return false
		}
	}
	return true
}

// input reads what stands behind the word.
func (r *Reader) input() bool {
	name, ok := r.NewName()
	if !ok {
		return false
	}
	lo, ok := r.Number(-api.MaxNumber, api.MaxNumber)
	if !ok {
		return false
	}
	hi, ok := r.Number(lo, api.MaxNumber)
	if !ok {
		return false
	}
	node := r.Plan.AppendInput(plan.Span{Lo: lo, Hi: hi})
	r.Plan.InputNames = append(r.Plan.InputNames, name)
	r.LearnValue(name, node)
	return true
}

// Result tells the plan of a text that was read to its end, or else the error and its place. Right says whether every
// token may stand.
func (r *Reader) Result(right bool) (plan.Plan, api.Errno, int) {
	if !right {
		return plan.Plan{}, api.ErrForm, r.at
	}
	if r.Plan.IsBig() {
		return plan.Plan{}, api.ErrBig, 0
	}
	return r.Plan, api.OK, 0
}
