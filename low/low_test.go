package low

import (
	"testing"

	"statute/api"
	"statute/plan"
)

// Each node takes nodes ahead of it alone: that is what lets one walk settle them all.
func TestNodesLookBack(t *testing.T) {
	p, errno, place := Read("in x 0 9 in k 0 3 set a add x k set b sub 7 a set c mul -2 b set d flr c 3 " +
		"set e lt x d set f le 5 k set g eq x x set h and e f set i or h g set j not i set l sel j d 8 out y l out z 1")
	if errno != api.OK || place != 0 {
		t.Fatalf("Read: %d, %d", errno, place)
	}
	flags := 0
	for i, n := range p.Nodes {
		if n.Op != plan.Number && n.Op != plan.Input && (n.A >= i || n.B >= i || n.C >= i) {
			t.Errorf("node %d takes one that is not ahead of it: %+v", i, n)
		}
		if n.Op.IsFlag() {
			flags++
		}
	}
	if len(p.Inputs) != 2 || len(p.Outs) != 2 || flags != 6 {
		t.Errorf("inputs %v, outs %v, %d flags", p.Inputs, p.Outs, flags)
	}
}

func TestNoPlanBesideAnError(t *testing.T) {
	for _, s := range []string{"", "in x 0 9 out y y", "in x 0 1000000000 set a mul 1000 x set b mul 1000 a set c mul 2 b out y 1"} {
		p, errno, _ := Read(s)
		if errno == api.OK || len(p.Nodes) != 0 || len(p.Inputs) != 0 || len(p.Outs) != 0 {
			t.Errorf("Read(%q) = %v, %d", s, p, errno)
		}
	}
}
