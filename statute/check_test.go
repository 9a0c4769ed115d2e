package statute_test

import (
	"strings"
	"testing"

	"statute/api"
	"statute/statute"
)

type check struct {
	s     string
	errno api.Errno
	place int
}

func tryChecks(t *testing.T, list []check) {
	t.Helper()
	for _, c := range list {
		errno, place := statute.CheckHigh(c.s)
		if errno != c.errno || place != c.place {
			t.Errorf("P3: CheckHigh(%.90q) = %d, %d, want %d, %d", c.s, errno, place, c.errno, c.place)
		}
	}
}

func fine(s string) check          { return check{s, api.OK, 0} }
func wrong(s string, at int) check { return check{s, api.ErrForm, at} }
func tooLong(s string) check       { return check{s, api.ErrLong, 0} }
func tooBig(s string) check        { return check{s, api.ErrBig, 0} }

func TestP3Examples(t *testing.T) {
	tryChecks(t, []check{
		fine("in x 0 9 out y add x 1"),
		wrong("", 0),
		wrong("in x 0 9", 4),
		wrong("in x 9 0 out y x", 3),
		wrong("in x 0 9 out y add x y", 8),
		wrong("in x 0 9 let x 1", 5),
		wrong("in x 0 9 out y 1 2", 7),
		wrong("in x 00", 2),
		fine("in x 0 1000000000 let a mul 1000 x out y mul 1000 a"),
		tooBig("in x 0 1000000000 let a mul 1000 x out y add 1 mul 1000 a"),
		fine(taxes),
	})
}

func TestP3LimitOfText(t *testing.T) {
	right := one + "out y x"
	tryChecks(t, []check{
		fine(padded(right, api.MaxText)),
		tooLong(padded(right, api.MaxText+1)),
		fine(right + "#" + strings.Repeat("y", api.MaxText-len(right)-1)),
		tooLong(right + "#" + strings.Repeat("y", api.MaxText-len(right))),
		wrong(strings.Repeat("\n", api.MaxText), 0),
		tooLong(strings.Repeat("\n", api.MaxText+1)),
		tooLong(strings.Repeat("in ", 1000000)),
	})
}

func TestP3LimitOfTokens(t *testing.T) {
	full := "in x 0 9 let a mul 2 x out y" + strings.Repeat(" add x", 294) + " a"
	if n := len(strings.Fields(full)); n != api.MaxTokens {
		t.Fatalf("the full text has %d tokens", n)
	}
	tryChecks(t, []check{
		fine(full),
		wrong(full+" x", 600),
		wrong(full+" ?", 600),
		wrong(full+" out z x", 600),
		fine(sum(296)),                  // 599 tokens
		wrong(sum(297), 600),            // 601
		wrong(sum(500), 600),            // many more
		wrong(sum(296)+" x", 599),       // 600, but the last of them may not stand
		wrong(sum(296)+" out", 600),     // 600, and unfinished
		wrong(sum(296)+" out z x", 600), // 602
		wrong(one+"out y"+strings.Repeat(" add x", 297), 600), // 600, and unfinished
		wrong(one+"out y ?"+strings.Repeat(" add x", 700), 6), // a fault ahead of the limit
	})
}

func TestP3Tokens(t *testing.T) {
	tryChecks(t, []check{
		fine("\n in\nx 0\n\n9 out  y x \n"),
		fine("in#\nx#1\n0#\n9#\nout#\ny#\nx#"),
		fine("#in x 0 9\nin x 0 9 out y x"),
		wrong("#in x 0 9 out y x", 0),
		wrong("in x 0 9#out y x", 4),
		wrong("in x#y\n0", 3),
		wrong("in x\t0 9 out y x", 1),
		wrong("in x 0 9 out y x\r\n", 6),
		wrong("in x 0 9 out y x\x00", 6),
		wrong("\ufeffin x 0 9 out y x", 0),
	})
}

func TestP3Numbers(t *testing.T) {
	tryChecks(t, []check{
		fine("in x -1000000000 1000000000 out y x"),
		fine("in x 1000000000 1000000000 out y x"),
		fine("in x -1000000000 -1000000000 out y x"),
		wrong("in x -1000000001 1000000000 out y x", 2),
		wrong("in x 1000000001 1000000001 out y x", 2),
		wrong("in x 0 1000000001 out y x", 3),
		fine(one + "out y 1000000000"),
		fine(one + "out y -1000000000"),
		wrong(one+"out y 1000000001", 6),
		wrong(one+"out y -1000000001", 6),
		wrong(one+"out y 18446744073709551617", 6),
		wrong(one+"out y -0", 6),
		wrong(one+"out y 01", 6),
		wrong(one+"out y -", 6),
		wrong(one+"out y +1", 6),
		wrong(one+"out y 1x", 6),
		wrong("in x -"+strings.Repeat("9", 5000), 2),
	})
}

func TestP3Names(t *testing.T) {
	tryChecks(t, []check{
		fine("in abcdefgh 0 9 out y abcdefgh"),
		wrong("in abcdefghi 0 9 out y 1", 1),
		fine("in a1234567 0 9 out y a1234567"),
		wrong(one+"let abcdefghi 1 out y 1", 5),
		fine(one + "let abcdefgh 1 out ijklmnop abcdefgh"),
		wrong(one+"out abcdefghi 1", 5),
		wrong("in X 0 9 out y 1", 1),
		wrong("in 1x 0 9 out y 1", 1),
		wrong("in x_ 0 9 out y 1", 1),
		wrong("in 7 0 9 out y 1", 1),
		wrong(one+"in x 0 9 out y x", 5),
		wrong(one+"let x 1 out y x", 5),
		wrong(one+"let a 1 let a 1 out y x", 8),
		wrong(one+"let a 1 out a 1", 8),
		wrong(one+"out x 1", 5),
		wrong(one+"out y 1 out y 1", 8),
		wrong(one+"let a a out y 1", 6),
		wrong(one+"let a b let b 1 out y 1", 6),
		wrong(one+"let a add 1 mul 2 a out y 1", 10),
		wrong(one+"out y y", 6),
		wrong(one+"out y 1 out z y", 9),
		wrong(one+"out y z", 6),
		fine(one + "let a x let b a out y add a b"),
	})
	for _, k := range strings.Fields("in let set out add sub mul min max if div tab lt le eq and or not down up zero near flr sel") {
		tryChecks(t, []check{
			wrong("in "+k+" 0 9 out y 1", 1), wrong(one+"let "+k+" 1 out y 1", 5), wrong(one+"out "+k+" 1", 5),
		})
	}
}

func TestP3Inputs(t *testing.T) {
	tryChecks(t, []check{
		wrong("out y 1", 0),
		wrong("let a 1 out y 1", 0),
		wrong("x", 0),
		wrong("in", 1),
		wrong("in x", 2),
		wrong("in x 0", 3),
		fine("in x 5 5 out y x"),
		fine("in x -5 -5 out y x"),
		wrong("in x 5 4 out y x", 3),
		wrong("in x -5 -6 out y x", 3),
		wrong("in x y 4 out y x", 2),
		wrong("in x 0 x out y x", 3),
		fine(inputs(1)), fine(inputs(2)), fine(inputs(3)),
		fine(inputs(api.MaxInputs)),
		wrong(inputs(api.MaxInputs+1), 4*api.MaxInputs),
		wrong("in a 0 1 in b 0 1 in c 0 1 in d 0 1 in", 16),
		wrong(one+"x 0 9 out y 1", 4),
	})
}

func TestP3LetsAndOuts(t *testing.T) {
	tryChecks(t, []check{
		fine(lets(0)), fine(lets(1)),
		fine(lets(api.MaxLets)),
		wrong(lets(api.MaxLets+1), 4+3*api.MaxLets),
		fine(outs(1)),
		fine(outs(api.MaxOuts)),
		wrong(outs(api.MaxOuts+1), 4+3*api.MaxOuts),
		wrong(outs(0), 4),
		wrong(one+"let a 1", 7),
		wrong(one+"let", 5),
		wrong(one+"let a", 6),
		wrong(one+"out", 5),
		wrong(one+"out y", 6),
		wrong(one+"let a 1 in b 0 1 out y a", 7),
		wrong(one+"out y 1 let a 1", 7),
		wrong(one+"out y 1 in b 0 1", 7),
		wrong(one+"set a add x 1 out y a", 4),
		wrong(one+"out y 1 ?", 7),
		wrong(outs(api.MaxOuts)+" ?", 4+3*api.MaxOuts),
	})
}

func TestP3Expressions(t *testing.T) {
	tryChecks(t, []check{
		fine(one + "out y add sub min max 1 2 3 4 5"),
		wrong(one+"out y add 1", 8), wrong(one+"out y sub", 7), wrong(one+"out y min 1", 8), wrong(one+"out y max 1", 8),
		wrong(one+"out y add 1 2 3", 9),
		wrong(one+"out y flr x 2", 6), wrong(one+"out y sel x 1 2", 6), wrong(one+"out y down", 6),
		wrong(one+"out y lt 1 2", 6), wrong(one+"out y not lt 1 2", 6), wrong(one+"out y add lt 1 2 3", 7),
		fine(one + "out y mul 1000 x"), fine(one + "out y mul -1000 x"), fine(one + "out y mul 0 x"),
		wrong(one+"out y mul 1001 x", 7), wrong(one+"out y mul -1001 x", 7), wrong(one+"out y mul x 2", 7), wrong(one+"out y mul add 1 1 x", 7),
		wrong(one+"out y mul", 7), wrong(one+"out y mul 2", 8),
		fine(one + "out y div down x 1"), fine(one + "out y div up x 1000000"), fine(one + "out y div zero x 7"), fine(one + "out y div near x 2"),
		wrong(one+"out y div down x 0", 9), wrong(one+"out y div down x -1", 9), wrong(one+"out y div down x 1000001", 9),
		wrong(one+"out y div down x x", 9), wrong(one+"out y div x 3", 7), wrong(one+"out y div flr x 3", 7), wrong(one+"out y div 3 x", 7),
		wrong(one+"out y div", 7), wrong(one+"out y div up", 8), wrong(one+"out y div up x", 9),
		fine(one + "out y if lt x 1 2 3"), fine(one + "out y if le x 1 2 3"), fine(one + "out y if eq x 1 2 3"),
		fine(one + "out y if and or lt x 1 le x 2 not eq x 3 4 5"),
		fine(one + "out y if not not lt if lt 1 2 3 4 5 6 7"),
		wrong(one+"out y if x 1 2", 7), wrong(one+"out y if 1 2 3", 7), wrong(one+"out y if add x 1 2 3", 7), wrong(one+"out y if", 7),
		wrong(one+"out y if and lt x 1 x 2 3", 11), wrong(one+"out y if or x lt x 1 2 3", 8), wrong(one+"out y if not x 2 3", 8),
		wrong(one+"out y if lt x 1 2", 11), wrong(one+"out y if lt x 1 eq 1 2 3", 10), wrong(one+"out y if lt lt 1 2 3 4 5", 8),
	})
}

func TestP3Tables(t *testing.T) {
	tryChecks(t, []check{
		fine(table(1)), fine(table(api.MaxBands)),
		wrong(table(0), 8), wrong(table(api.MaxBands+1), 8),
		wrong(one+"out y tab", 7), wrong(one+"out y tab x", 8), wrong(one+"out y tab x 1", 9), wrong(one+"out y tab x 1 0", 10),
		wrong(one+"out y tab 1 0 5", 8), wrong(one+"out y tab x x 0 5", 8), wrong(one+"out y tab x -1 0 5", 8),
		wrong(one+"out y tab x 1 x 5", 9), wrong(one+"out y tab x 1 0 x", 10), wrong(one+"out y tab x 1 0 1 2", 11), wrong(one+"out y tab x 2 0 1", 11),
		fine(one + "out y tab x 1 0 1000"), fine(one + "out y tab x 1 0 -1000"),
		wrong(one+"out y tab x 1 0 1001", 10), wrong(one+"out y tab x 1 0 -1001", 10),
		fine(one + "out y tab x 2 -1000000000 1 1000000000 1"),
		wrong(one+"out y tab x 2 -1000000001 1 1000000000 1", 9), wrong(one+"out y tab x 2 -1000000000 1 1000000001 1", 11),
		fine(one + "out y tab x 2 5 1 6 1"), wrong(one+"out y tab x 2 5 1 5 1", 11), wrong(one+"out y tab x 2 5 1 4 1", 11),
		wrong(one+"out y tab x 3 5 1 6 1 6 1", 13), wrong(one+"out y tab x 2 1000000000 1 1000000000 1", 11),
		fine(one + "out y add tab x 1 9 1 tab tab x 1 0 1 1 3 2"),
	})
}

func TestP3Big(t *testing.T) {
	big := "in x 0 1000000000 let a mul 1000 x let b mul 1000 a "
	small := "in x -1000000000 5 let a mul 1000 x let b mul -1000 a "
	tryChecks(t, []check{
		fine(big + "out y b"), fine(small + "out y b"), fine(big + "out y add 0 b"), fine(big + "out y sub b 0"),
		tooBig(big + "out y add b 1"), tooBig(big + "out y add 1 b"), tooBig(big + "out y sub b 1"), tooBig(big + "out y sub 1 b"),
		tooBig(big + "out y sub b b"), tooBig(small + "out y add -1 b"),
		fine(big + "out y mul 1 b"), fine(big + "out y mul -1 b"), fine(big + "out y mul 0 b"), tooBig(big + "out y mul 2 b"), tooBig(big + "out y mul -2 b"),
		fine(big + "out y min b b"), fine(big + "out y max b b"), tooBig(big + "out y add 1 min b 0"), tooBig(big + "out y add 1 max 0 b"),
		fine(big + "out y if lt x 5 b b"), tooBig(big + "out y add 1 if lt x 5 b 0"), tooBig(big + "out y add 1 if lt x 5 0 b"),
		fine(big + "out y add 1 if lt b b 0 1"),
		tooBig(big + "out y if lt add 1 b 0 1 2"), tooBig(big + "out y if not and eq 1 2 or le 1 2 lt 0 mul 2 b 1 2"),
		fine(big + "out y div down b 7"), tooBig(big + "out y add 1 div up b 1000000"), tooBig(big + "out y div zero add b 1 1000000"), fine(big + "out y div near b 2"),
		fine(big + "out y tab b 1 0 1"), fine(big + "out y tab b 1 0 -1"), fine(big + "out y tab b 1 5 0"), tooBig(big + "out y tab b 1 -1 1"), tooBig(big + "out y tab b 1 1 -1"),
		fine(big + "out y tab a 2 0 400 1 0"), tooBig(big + "out y tab a 2 0 500 1 500"), tooBig(big + "out y tab a 2 -1 -500 0 500"),
		fine("in x 0 1000000000 let a mul 999 x out y tab a 1 1000000000 1000"),
		fine("in x 0 1000000000 let a mul 999 x out y tab a 1 -1000000000 -1000"),
		tooBig("in x 0 1000000000 let a mul 1000 x out y tab a 1 1000000000 1000"),
		tooBig("in x 0 1000000000 let a mul 999 x out y tab a 2 1 1 1000000000 1000"),
		tooBig(big + "out y 1 out z mul 0 mul 2 b"), tooBig(big + "let c add b 1 out y 1"),
		tooBig(one + "out y" + strings.Repeat(" mul 1000", 200) + " x"), fine("in x 0 0 out y" + strings.Repeat(" mul 1000", 200) + " x"),
	})
}
