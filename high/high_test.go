package high

import (
	"testing"

	"statute/api"
	"statute/plan"
)

// Each node takes nodes ahead of it alone: that is what lets one walk settle them all.
func TestNodesLookBack(t *testing.T) {
	p, errno, place := Read("in x 0 9 in k 0 3 let f mul 2 k let g tab f 2 1 1 2 2 " +
		"out y if or lt x f not and eq k 3 le g 0 div up add x 1 7 max sub x f min f g out z g")
	if errno != api.OK || place != 0 {
		t.Fatalf("Read: %d, %d", errno, place)
	}
	for i, n := range p.Nodes {
		if n.Op != plan.Number && n.Op != plan.Input && (n.A >= i || n.B >= i || n.C >= i) {
			t.Errorf("node %d takes one that is not ahead of it: %+v", i, n)
		}
	}
	if len(p.Inputs) != 2 || len(p.Outs) != 2 || p.Outs[1] >= p.Outs[0] {
		t.Errorf("inputs %v, outs %v", p.Inputs, p.Outs)
	}
}

func TestNoPlanBesideAnError(t *testing.T) {
	for _, s := range []string{"", "in x 0 9 out y y", "in x 0 1000000000 out y mul 1000 mul 1000 mul 2 x"} {
		p, errno, _ := Read(s)
		if errno == api.OK || len(p.Nodes) != 0 || len(p.Inputs) != 0 || len(p.Outs) != 0 {
			t.Errorf("Read(%q) = %v, %d", s, p, errno)
		}
	}
}
