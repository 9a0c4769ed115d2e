package net

import (
	"math/rand"
	"testing"

	"statute/api"
	"statute/high"
	"statute/low"
	"statute/plan"
	"statute/sum"
	"statute/whole"
)

func of(v int) whole.Int { return whole.Of(v) }

// drawn makes a plan of so many nodes, each of which takes nodes ahead of it.
func drawn(r *rand.Rand, size int) plan.Plan {
	var p plan.Plan
	var values, flags []int
	for range 1 + r.Intn(3) {
		lo := r.Intn(9) - 6
		values = append(values, p.AppendInput(plan.Span{Lo: lo, Hi: lo + r.Intn(6)}))
	}
	for range size {
		n := plan.Node{Op: plan.Op(2 + r.Intn(17)), A: values[r.Intn(len(values))], B: values[r.Intn(len(values))], K: r.Intn(9) - 4}
		switch n.Op {
		case plan.And, plan.Or, plan.Not, plan.If:
			if len(flags) == 0 {
				continue
			}
			n.A = flags[r.Intn(len(flags))]
			if n.Op == plan.If {
				n.C = values[r.Intn(len(values))]
			} else {
				n.B = flags[r.Intn(len(flags))]
			}
		case plan.Down, plan.Up, plan.Zero, plan.Near:
			n.K = 1 + r.Intn(7)
		case plan.Tab:
			at := r.Intn(9) - 6
			for range 1 + r.Intn(3) {
				n.Bands = append(n.Bands, plan.Band{From: at, Rate: r.Intn(7) - 3})
				at += 1 + r.Intn(4)
			}
		}
		if r.Intn(4) == 0 && !n.Op.IsFlag() {
			n = plan.Node{Op: plan.Number, K: r.Intn(21) - 10}
		}
		at := p.Append(n)
		if n.Op.IsFlag() {
			flags = append(flags, at)
		} else {
			values = append(values, at)
		}
	}
	for i := range p.Nodes {
		p.Outs = append(p.Outs, i)
	}
	return p
}

func homeOf(r *rand.Rand, p plan.Plan) ([]int, []whole.Int) {
	var home []int
	var wholes []whole.Int
	for _, s := range p.Inputs {
		v := s.Lo + r.Intn(s.Hi-s.Lo+1)
		home = append(home, v)
		wholes = append(wholes, of(v))
	}
	return home, wholes
}

// Whatever a plan comes to, its sums and flags in the net come to the same; and every value is within its range.
func TestProgramsComeToTheSame(t *testing.T) {
	r := rand.New(rand.NewSource(1))
	for range 3000 {
		p := drawn(r, 1+r.Intn(30))
		if p.IsBig() {
			continue
		}
		n := New(SpansOf(p))
		told := n.Program(p, nil)
		for range 8 {
			home, wholes := homeOf(r, p)
			want := p.Run(home)
			values := n.Run(wholes)
			for i, node := range p.Nodes {
				got := SumValue(told.Values[i], values)
				if node.Op.IsFlag() {
					got = flagValue(holds(told.Flags[i], values))
				}
				if whole.Compare(got, of(want[i])) != 0 {
					t.Fatalf("%v at %v: node %d, %+v, is %v, want %d", p, home, i, node, got, want[i])
				}
			}
			for i, node := range n.Nodes {
				isFlag := node.Kind == Least || node.Kind == Both
				if !isFlag && (whole.Compare(values[i], node.Range.Low) < 0 || whole.Compare(values[i], node.Range.High) > 0) {
					t.Fatalf("%v at %v: node %d of the net, %+v, is %v", p, home, i, node, values[i])
				}
			}
		}
	}
}

// Each node of a net takes nodes ahead of it alone, and no two nodes are the same.
func TestNodesLookBack(t *testing.T) {
	r := rand.New(rand.NewSource(2))
	for range 500 {
		p := drawn(r, 30)
		n := New(SpansOf(p))
		n.Program(p, nil)
		for i, node := range n.Nodes {
			for _, s := range []sum.Sum{node.A, node.B} {
				for _, term := range s.Terms {
					if term.At >= i {
						t.Fatalf("node %d takes %d", i, term.At)
					}
				}
			}
			if (node.Kind == Choice || node.Kind == Both) && (node.F.At < 0 || node.F.At >= i) || node.Kind == Both && node.G.At >= i {
				t.Fatalf("node %d takes the flags %v, %v", i, node.F, node.G)
			}
			for j := range i {
				if isSame(n.Nodes[j], node) {
					t.Fatalf("nodes %d and %d are the same", j, i)
				}
			}
		}
	}
}

const two = "in x -1000000 1000000000 in y 0 1000 "

// Pairs of texts whose first outs are written in one way.
func TestWrittenInOneWay(t *testing.T) {
	for k, c := range []struct {
		high, low string
	}{
		{"out o add x y", "set a mul 2 x set b sub a x set c add y b out o c"},
		{"out o div near x 100", "set a add x 50 set b flr a 100 out o b"},
		{"out o div near x 7", "set a mul 2 x set b add a 7 set c flr b 14 out o c"},
		{"out o div up x 7", "set a sub 0 x set b flr a 7 set c sub 0 b out o c"},
		{"out o div up x 7", "set a add x 6 set b flr a 7 out o b"},
		{"out o div down mul 12 x 12", "out o x"},
		{"out o div down mul 60 add x 1 100", "set a mul 3 x set b add a 3 set c flr b 5 out o c"},
		{"out o div down add mul 7 x y 7", "set a flr y 7 set b add a x out o b"},
		{"out o div down mul 6 x 7", "set a sub 0 x set b flr a 7 set c add x b out o c"},
		{"out o div down div down x 3 4", "set a flr x 12 out o a"},
		{"out o div up div up x 3 4", "set a add x 11 set b flr a 12 out o b"},
		{"out o div down add 5 div down x 3 4", "set a add x 15 set b flr a 12 out o b"},
		{"out o min x y", "set c le x y set a sel c x y out o a"},
		{"out o min x y", "set c lt y x set a sel c y x out o a"},
		{"out o max x y", "set c le y x set d not c set a sel d y x out o a"},
		{"out o mul 3 if lt x 5 x y", "set a mul -3 x set b mul -3 y set c le 5 x set d sel c b a set e sub 0 d out o e"},
		{"out o add 7 if lt x 5 x y", "set a add 7 x set b add y 7 set c lt x 5 set d sel c a b out o d"},
		{"out o if eq x y 1 0", "set c le x y set d le y x set e and d c set f sel e 1 0 out o f"},
		{"out o if or lt x 5 lt y 5 x y", "set c le 5 x set d le 5 y set e and d c set f sel e y x out o f"},
		{"out o if lt mul 3 x mul 3 y x y", "set c lt x y set d sel c x y out o d"},
		{"out o if lt x -1000001 x y", "out o y"},
		{"out o if le x 1000000000 x y", "out o x"},
		{"out o if and lt x 5 not lt x 5 x y", "out o y"},
		{"out o tab x 1 100 10", "set a sub x 100 set c lt a 0 set d sel c 0 a set e mul 10 d out o e"},
	} {
		a, errno, place := high.Read(two + c.high)
		if errno != api.OK {
			t.Fatalf("line %d: %d, %d", k, errno, place)
		}
		b, errno, place := low.Read(two + c.low)
		if errno != api.OK {
			t.Fatalf("line %d: %d, %d", k, errno, place)
		}
		n := New(SpansOf(a))
		first := n.Program(a, nil)
		second := n.Program(b, nil)
		x, y := first.Values[a.Outs[0]], second.Values[b.Outs[0]]
		if !sum.Same(x, y) {
			t.Errorf("line %d: %v and %v", k, x, y)
		}
	}
}

// What is known of a node takes its place.
func TestKnown(t *testing.T) {
	a, _, _ := high.Read(two + "out o min x y")
	b, _, _ := low.Read(two + "set c lt x y set a sel c x y set d add a 1 out o d")
	n := New(SpansOf(a))
	first := n.Program(a, nil)
	known := make([]Known, len(b.Nodes))
	for i, node := range b.Nodes {
		if node.Op == plan.If {
			known[i] = Known{true, first.Values[a.Outs[0]]}
		}
	}
	second := n.Program(b, known)
	want := first.Values[a.Outs[0]].Raised(of(1))
	if got := second.Values[b.Outs[0]]; !sum.Same(got, want) {
		t.Errorf("%v, want %v", got, want)
	}
}

// An input of one number is that number, however often it is multiplied.
func TestFixedInputs(t *testing.T) {
	p, errno, _ := high.Read("in x 5 5 in z 0 0 let a mul 1000 mul 1000 mul 1000 mul 1000 mul 1000 mul 1000 mul 1000 mul 1000 z out o add a x")
	if errno != api.OK {
		t.Fatal(errno)
	}
	n := New(SpansOf(p))
	told := n.Program(p, nil)
	if got := told.Values[p.Outs[0]]; !sum.Same(got, sum.Number(of(5))) || len(n.Nodes) != 0 {
		t.Errorf("%v, %v", got, n.Nodes)
	}
}

// Nodes that no text makes: something is told, and nothing panics.
func TestStrayNodes(t *testing.T) {
	for op := plan.Number; op <= plan.Not+1; op++ {
		for _, at := range []int{-1, 1, 99} {
			p := plan.Plan{}
			p.AppendInput(plan.Span{Lo: 0, Hi: 9})
			p.Append(plan.Node{Op: op, A: at, B: at, C: at, K: at})
			n := New(SpansOf(p))
			if told := n.Program(p, nil); len(told.Values) != 2 || len(told.Flags) != 2 {
				t.Errorf("op %d at %d: %v", op, at, told)
			}
			n.Run(nil)
		}
	}
}
