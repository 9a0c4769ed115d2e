package statute_test

import (
	"strings"
	"testing"

	"statute/api"
	"statute/statute"
)

func TestP7(t *testing.T) {
	for _, c := range []struct{ s, want string }{
		{"in x 0 9  set a#\n add x 1 set b\nlt a 3 out y a# z", "in x 0 9\nset a add x 1\nset b lt a 3\nout y a\n"},
		{"in x 0 9 out y x", "in x 0 9\nout y x\n"},
		{"\n\n in\nx\n0\n9\nset\na\nflr\nx\n2\nout\ny\na\n\n", "in x 0 9\nset a flr x 2\nout y a\n"},
		{"#set\nin x -5 -5#\nset f eq -5 x set g not f set h sel g 1# 2\n-1 out y h#", "in x -5 -5\nset f eq -5 x\nset g not f\nset h sel g 1 -1\nout y h\n"},
		{"in a 0 1 in b 0 1\nin c 0 1 in d 0 1 out o a out p b out q c out r d", "in a 0 1\nin b 0 1\nin c 0 1\nin d 0 1\nout o a\nout p b\nout q c\nout r d\n"},
		{"in set1 0 1 set outs add set1 0 out sets outs", "in set1 0 1\nset outs add set1 0\nout sets outs\n"},
		{padded("in x 0 9 out y x", api.MaxText), "in x 0 9\nout y x\n"},
	} {
		got, errno := statute.PrintLow(c.s)
		if got != c.want || errno != api.OK {
			t.Errorf("P7: PrintLow(%.60q) = %q, %d, want %q", c.s, got, errno, c.want)
		}
	}
}

func TestP7TellsTheErrorOfCheck(t *testing.T) {
	for s, want := range map[string]api.Errno{
		"": api.ErrForm, "in x 0 9": api.ErrForm, steps(81): api.ErrForm, "in x 0 9 out y add x 1": api.ErrForm, "in x 0 9 set f lt x 1 out y f": api.ErrForm,
		padded("in x 0 9 out y x", api.MaxText+1):                                                      api.ErrLong,
		"in x 0 1000000000 set a mul 1000 x set b mul 1000 a set c add b 1 out y x":                    api.ErrBig,
		"in x -1000000000 0 set a mul 1000 x set b mul -1000 a set c sub b -1 set d mul 0 c out y d #": api.ErrBig,
	} {
		got, errno := statute.PrintLow(s)
		if got != "" || errno != want {
			t.Errorf("P7: PrintLow(%.60q) = %q, %d, want %d alone", s, got, errno, want)
		}
	}
}

// What is printed is the same text: it has the same tokens, and printed again it stays as it is.
func TestP7PrintsTheSameText(t *testing.T) {
	for _, s := range []string{lowTaxes, steps(80), outs(4), inputs(4)} {
		once, errno := statute.PrintLow(s)
		if errno != api.OK {
			t.Fatalf("P7: PrintLow(%.60q): %d", s, errno)
		}
		twice, _ := statute.PrintLow(once)
		if twice != once {
			t.Errorf("P7: printed again %q is %q", once, twice)
		}
		if s != lowTaxes && strings.Join(strings.Fields(s), " ") != strings.Join(strings.Fields(once), " ") {
			t.Errorf("P7: %.60q is printed with other tokens: %q", s, once)
		}
	}
	printed, _ := statute.PrintLow(lowTaxes)
	if lines := strings.Count(printed, "\n"); lines != 3+12+3 || strings.Contains(printed, "#") {
		t.Errorf("P7: %d lines: %q", lines, printed)
	}
}
