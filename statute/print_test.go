package statute_test

import (
	"strings"
	"testing"

	"statute/api"
	"statute/statute"
)

func TestP4(t *testing.T) {
	for _, c := range []struct{ s, want string }{
		{"in x 0 9# of one\nout  y add x 1", "in x 0 9\nout y add x 1\n"},
		{"in x 0 9 out y x", "in x 0 9\nout y x\n"},
		{"\n\n in\nx\n0\n9\nout\ny\nx\n\n", "in x 0 9\nout y x\n"},
		{"#in\nin x -5 -5#\nlet a#\n1 let b# 2\na out y b#", "in x -5 -5\nlet a 1\nlet b a\nout y b\n"},
		{"in a 0 1 in b 0 1\nin c 0 1 in d 0 1 out o a out p b out q c out r d", "in a 0 1\nin b 0 1\nin c 0 1\nin d 0 1\nout o a\nout p b\nout q c\nout r d\n"},
		{"in inn 0 1 out outs inn", "in inn 0 1\nout outs inn\n"},
		{one + "out y if not and lt x 1 or le x 2 eq x 3 tab x 2 -1 -5 1 5\ndiv near x 7", "in x 0 9\nout y if not and lt x 1 or le x 2 eq x 3 tab x 2 -1 -5 1 5 div near x 7\n"},
		{padded("in x 0 9 out y x", api.MaxText), "in x 0 9\nout y x\n"},
		{strings.Repeat("#", 5000) + "\nin x 0 9 out y x", "in x 0 9\nout y x\n"},
	} {
		got, errno := statute.PrintHigh(c.s)
		if got != c.want || errno != api.OK {
			t.Errorf("P4: PrintHigh(%.60q) = %q, %d, want %q", c.s, got, errno, c.want)
		}
	}
}

func TestP4TellsTheErrorOfCheck(t *testing.T) {
	for s, want := range map[string]api.Errno{
		"": api.ErrForm, "in x 0 9": api.ErrForm, sum(297): api.ErrForm, "in x 0 9 out y x\t": api.ErrForm,
		padded("in x 0 9 out y x", api.MaxText+1):                  api.ErrLong,
		"in x 0 1000000000 out y mul 1000 mul 1000 add 1 x":        api.ErrBig,
		"in x 0 1000000000 out y mul 0 mul 1000 mul -1000 add 1 x": api.ErrBig,
	} {
		got, errno := statute.PrintHigh(s)
		if got != "" || errno != want {
			t.Errorf("P4: PrintHigh(%.60q) = %q, %d, want %d alone", s, got, errno, want)
		}
	}
}

// What is printed is the same text: it has the same tokens, and printed again it stays as it is.
func TestP4PrintsTheSameText(t *testing.T) {
	for _, s := range []string{taxes, sum(296), lets(16), outs(4), inputs(4), table(6)} {
		once, errno := statute.PrintHigh(s)
		if errno != api.OK {
			t.Fatalf("P4: PrintHigh(%.60q): %d", s, errno)
		}
		twice, _ := statute.PrintHigh(once)
		if twice != once {
			t.Errorf("P4: printed again %q is %q", once, twice)
		}
		if s != taxes && strings.Join(strings.Fields(s), " ") != strings.Join(strings.Fields(once), " ") {
			t.Errorf("P4: %.60q is printed with other tokens: %q", s, once)
		}
	}
	printed, _ := statute.PrintHigh(taxes)
	if lines := strings.Count(printed, "\n"); lines != 9 || strings.Contains(printed, "#") {
		t.Errorf("P4: %d lines: %q", lines, printed)
	}
}
