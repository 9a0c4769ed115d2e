package statute_test

import (
	"strconv"
	"strings"
	"testing"

	"statute/api"
	"statute/statute"
)

func tryLowChecks(t *testing.T, list []check) {
	t.Helper()
	for _, c := range list {
		errno, place := statute.CheckLow(c.s)
		if errno != c.errno || place != c.place {
			t.Errorf("P6: CheckLow(%.90q) = %d, %d, want %d, %d", c.s, errno, place, c.errno, c.place)
		}
	}
}

func TestP6Examples(t *testing.T) {
	tryLowChecks(t, []check{
		fine("in x 0 9 set c lt x 5 set d sel c x 5 out y d"),
		wrong("in x 0 9 set c lt x 5 out y c", 11),
		wrong("in x 0 9 set c lt x 5 set d sel x x 5", 12),
		fine("in x -9 9 set a flr x 2 set b add a a set c eq b x set d sel c 0 1 out y d"),
		fine(lowTaxes),
	})
}

func TestP6LimitOfText(t *testing.T) {
	right := one + "set a add x 1 out y a"
	tryLowChecks(t, []check{
		fine(padded(right, api.MaxText)),
		tooLong(padded(right, api.MaxText+1)),
		fine(right + "#" + strings.Repeat("y", api.MaxText-len(right)-1)),
		tooLong(right + "#" + strings.Repeat("y", api.MaxText-len(right))),
		wrong(strings.Repeat("\n", api.MaxText), 0),
		tooLong(strings.Repeat("\n", api.MaxText+1)),
		tooLong(strings.Repeat("set ", 1000000)),
	})
}

func TestP6Tokens(t *testing.T) {
	tryLowChecks(t, []check{
		fine("\n in\nx 0\n\n9 set a\nadd x\n1 out  y a \n"),
		fine("in#\nx#1\n0#\n9#\nset#\na#\nflr#\nx#\n2#\nout#\ny#\na#"),
		wrong("in x 0 9#set a add x 1 out y a", 4),
		wrong("in x 0 9 set a add\tx 1 out y a", 6),
		wrong("in x 0 9 out y x\r\n", 6),
		wrong("in x 0 9 set a add x 1\x00 out y x", 8),
	})
}

func TestP6Numbers(t *testing.T) {
	tryLowChecks(t, []check{
		fine("in x -1000000000 1000000000 out y x"),
		wrong("in x -1000000001 1000000000 out y x", 2),
		wrong("in x 0 1000000001 out y x", 3),
		fine(one + "out y 1000000000"), fine(one + "out y -1000000000"), fine(one + "out y 0"),
		wrong(one+"out y 1000000001", 6), wrong(one+"out y -1000000001", 6), wrong(one+"out y -0", 6), wrong(one+"out y 01", 6),
		fine(one + "set a add 1000000000 -1000000000 out y a"),
		wrong(one+"set a add 1000000001 1 out y a", 7), wrong(one+"set a sub 1 -1000000001 out y a", 8),
		wrong(one+"set a lt 00 1 out y 1", 7), wrong(one+"set a eq 1 +1 out y 1", 8),
	})
}

func TestP6Names(t *testing.T) {
	flag := one + "set f lt x 5 "
	tryLowChecks(t, []check{
		fine(one + "set abcdefgh add x 1 out ijklmnop abcdefgh"),
		wrong(one+"set abcdefghi add x 1 out y 1", 5), wrong(one+"set A add x 1 out y 1", 5), wrong(one+"set 1 add x 1 out y 1", 5), wrong(one+"set a_ add x 1 out y 1", 5),
		wrong(one+"set x add x 1 out y x", 5), wrong(one+"in x 0 9 out y x", 5), wrong(one+"out x 1", 5),
		wrong(one+"set a add x 1 set a add x 1 out y a", 10), wrong(flag+"set f lt x 5 out y 1", 10), wrong(flag+"set f add x 1 out y 1", 10), wrong(one+"set a add x 1 set a lt x 1 out y 1", 10),
		wrong(flag+"out f 1", 10), wrong(one+"set a add x 1 out a a", 10), wrong(one+"out y 1 out y 1", 8),
		wrong(one+"set a add a 1 out y a", 7), wrong(one+"set a add x b set b add x 1 out y a", 8), wrong(one+"set a not a out y 1", 7),
		wrong(one+"out y y", 6), wrong(one+"out y 1 out z y", 9), wrong(one+"out y z", 6),
		fine(flag + "set g not f set h add x 1 out y h"),
	})
	for _, k := range strings.Fields("in let set out add sub mul min max if div tab lt le eq and or not down up zero near flr sel") {
		tryLowChecks(t, []check{
			wrong("in "+k+" 0 9 out y 1", 1), wrong(one+"set "+k+" add x 1 out y 1", 5), wrong(one+"out "+k+" 1", 5),
			wrong(one+"set a add "+k+" 1 out y 1", 7), wrong(one+"set a not "+k+" out y 1", 7),
		})
	}
}

func TestP6Parts(t *testing.T) {
	tryLowChecks(t, []check{
		wrong("", 0), wrong("out y 1", 0), wrong("set a add 1 1 out y a", 0), wrong("x", 0),
		wrong("in", 1), wrong("in x", 2), wrong("in x 0", 3), wrong("in x 5 4 out y x", 3), fine("in x 5 5 out y x"),
		fine(inputs(1)), fine(inputs(api.MaxInputs)), wrong(inputs(api.MaxInputs+1), 4*api.MaxInputs),
		fine(steps(0)), fine(steps(1)), fine(steps(api.MaxSteps)), wrong(steps(api.MaxSteps+1), 4+5*api.MaxSteps), wrong(steps(200), 4+5*api.MaxSteps),
		fine(outs(1)), fine(outs(api.MaxOuts)), wrong(outs(api.MaxOuts+1), 4+3*api.MaxOuts), wrong(outs(0), 4),
		wrong(one+"set a add x 1", 9), wrong(one+"set", 5), wrong(one+"set a", 6), wrong(one+"out", 5), wrong(one+"out y", 6),
		wrong(one+"let a x out y a", 4), wrong(one+"set a add x 1 let b x out y b", 9),
		wrong(one+"set a add x 1 in b 0 1 out y a", 9), wrong(one+"out y 1 set a add x 1", 7), wrong(one+"out y 1 in b 0 1", 7),
		wrong(one+"out y 1 2", 7), wrong(one+"out y 1 ?", 7), wrong(outs(api.MaxOuts)+" ?", 4+3*api.MaxOuts),
		wrong(one+"out y add x 1", 6), wrong(one+"out y lt x 1", 6),
	})
}

// The longest right text has 4 inputs, 80 steps and 4 outs.
func TestP6LongestText(t *testing.T) {
	s := strings.ReplaceAll(inputs(api.MaxInputs), "out y i0", "set f lt i0 i1")
	for i := range api.MaxSteps - 1 {
		s += " set step" + strconv.Itoa(1000+i) + " sel f -1000000000 1000000000"
	}
	s += " out o1 1 out o2 2 out o3 3 out o4 step1078"
	tryLowChecks(t, []check{fine(s), fine(padded(s, api.MaxText)), wrong(s+" out o5 1", 507), wrong(s+strings.Repeat(" ?", 200), 507)})
}

func TestP6Steps(t *testing.T) {
	for _, op := range strings.Fields("add sub lt le eq") {
		tryLowChecks(t, []check{
			fine(one + "set a " + op + " x 1 out y 1"), fine(one + "set a " + op + " 1 x out y 1"), fine(one + "set a " + op + " 1 2 out y 1"),
			wrong(one+"set a "+op, 7), wrong(one+"set a "+op+" x", 8), wrong(one+"set a "+op+" x out y 1", 8), wrong(one+"set a "+op+" x 1 2 out y 1", 9),
			wrong(one+"set a "+op+" ? 1 out y 1", 7), wrong(one+"set f le x 1 set a "+op+" f 1 out y 1", 12), wrong(one+"set f le x 1 set a "+op+" 1 f out y 1", 13),
		})
	}
	for _, op := range strings.Fields("min max if div tab down up zero near let in out set x 1 ?") {
		tryLowChecks(t, []check{wrong(one+"set a "+op+" x 1 out y 1", 6)})
	}
	tryLowChecks(t, []check{
		fine(one + "set a mul 1000 x out y a"), fine(one + "set a mul -1000 x out y a"), fine(one + "set a mul 0 7 out y a"),
		wrong(one+"set a mul 1001 x out y a", 7), wrong(one+"set a mul -1001 x out y a", 7), wrong(one+"set a mul x 2 out y a", 7),
		wrong(one+"set a mul", 7), wrong(one+"set a mul 2", 8), wrong(one+"set f lt x 1 set a mul 2 f out y a", 13),
		fine(one + "set a flr x 1 out y a"), fine(one + "set a flr x 1000000 out y a"), fine(one + "set a flr -7 2 out y a"),
		wrong(one+"set a flr x 0 out y a", 8), wrong(one+"set a flr x -1 out y a", 8), wrong(one+"set a flr x 1000001 out y a", 8), wrong(one+"set a flr x x out y a", 8),
		wrong(one+"set a flr", 7), wrong(one+"set a flr x", 8), wrong(one+"set f lt x 1 set a flr f 2 out y a", 12),
	})
}

func TestP6Flags(t *testing.T) {
	two := one + "set f lt x 5 set g eq x 7 set v add x 1 " // 19 tokens
	for _, op := range strings.Fields("and or") {
		tryLowChecks(t, []check{
			fine(two + "set a " + op + " f g out y v"), fine(two + "set a " + op + " f f set b " + op + " a g out y v"),
			wrong(two+"set a "+op+" v g out y v", 22), wrong(two+"set a "+op+" f v out y v", 23), wrong(two+"set a "+op+" x g out y v", 22), wrong(two+"set a "+op+" 1 g out y v", 22),
			wrong(two+"set a "+op+" f 0 out y v", 23), wrong(two+"set a "+op, 22), wrong(two+"set a "+op+" f", 23), wrong(two+"set a "+op+" a f out y v", 22),
			wrong(two+"set a "+op+" f g out y a", 26), wrong(two+"set a "+op+" f h out y 1", 23),
		})
	}
	tryLowChecks(t, []check{
		fine(two + "set a not f set b not a out y v"), wrong(two+"set a not", 22), wrong(two+"set a not v out y v", 22), wrong(two+"set a not x out y v", 22), wrong(two+"set a not 1 out y v", 22),
		wrong(two+"set a not f g out y v", 23), wrong(two+"set a not f out y a", 25), wrong(two+"set a not f set b add a 1 out y v", 26),
		fine(two + "set a sel f v 1 out y a"), fine(two + "set a sel f 1 x set b sel g a a out y b"),
		wrong(two+"set a sel v v 1 out y a", 22), wrong(two+"set a sel 1 v 1 out y a", 22), wrong(two+"set a sel f g 1 out y a", 23), wrong(two+"set a sel f 1 g out y a", 24),
		wrong(two+"set a sel", 22), wrong(two+"set a sel f", 23), wrong(two+"set a sel f 1", 24), wrong(two+"set a sel f 1 2 3", 25), wrong(two+"set a sel f 1 2 set b not a out y 1", 28),
		wrong(two+"set a sel a 1 2 out y 1", 22), wrong(two+"out y f", 21), wrong(two+"out y v out z v out w g", 27),
		wrong(one+"out y 1 out z f", 9),
	})
}

func TestP6Big(t *testing.T) {
	big := "in x 0 1000000000 set a mul 1000 x set b mul 1000 a "
	small := "in x -1000000000 5 set a mul 1000 x set b mul -1000 a "
	end := " out y 1"
	tryLowChecks(t, []check{
		fine(big + "out y b"), fine(small + "out y b"),
		fine(big + "set c add 0 b" + end), fine(big + "set c sub b 0" + end),
		tooBig(big + "set c add b 1" + end), tooBig(big + "set c add 1 b" + end), tooBig(big + "set c sub b 1" + end), tooBig(big + "set c sub -1 b" + end), tooBig(big + "set c sub b b" + end), tooBig(small + "set c add b b" + end),
		fine(big + "set c mul 1 b" + end), fine(big + "set c mul -1 b" + end), fine(big + "set c mul 0 b set d add c b" + end), tooBig(big + "set c mul 2 b" + end), tooBig(small + "set c mul -2 b" + end),
		fine(big + "set c flr b 7" + end), tooBig(big + "set c flr b 1000000 set d add c 1" + end), fine(big + "set c flr b 1000000 set d add c 0" + end),
		fine(big + "set f lt b b set c sel f b b" + end), tooBig(big + "set f lt b b set c sel f b 0 set d add c 1" + end), tooBig(big + "set f lt b b set c sel f 0 b set d add c 1" + end), fine(big + "set f lt b b set c sel f 1 0 set d add c c" + end),
		fine(big + "set f lt b b set g le b b set h eq b b set i and f g set j or h i set k not j" + end),
		tooBig("in x 0 9" + strings.Repeat(" ", 9) + "set a mul 1000 x set b mul 1000 a set c mul 1000 b set d mul 1000 c set e mul 1000 d set f mul 1000 e" + end),
		tooBig("in x 1 1 " + powers(80) + end), fine("in x 0 0 " + powers(80) + end),
	})
}

// powers makes so many steps, each a thousand times the one ahead.
func powers(n int) string {
	s := "set p0 mul 1000 x"
	for i := 1; i < n; i++ {
		s += " set p" + strconv.Itoa(i) + " mul 1000 p" + strconv.Itoa(i-1)
	}
	return s
}

// Neither form has the other's parts.
func TestTheFormsAreTwo(t *testing.T) {
	tryLowChecks(t, []check{fine(outs(2)), wrong(lets(1), 4), wrong(brackets, 6)})
	tryChecks(t, []check{fine(outs(2)), wrong(steps(1), 4), wrong(one+"out y 1 set a add x 1", 7)})
}
