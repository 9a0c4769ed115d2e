package statute_test

import (
	"slices"
	"strings"
	"testing"

	"statute/api"
	"statute/statute"
)

var homes = [][]int{nil, {}, {0}, {5}, {-1 << 63}, {1<<63 - 1}, {0, 0}, {0, 0, 0}, {1, 2, 3, 4}, {1, 2, 3, 4, 5}}

// holdTogether asks all calls about one text, and whether they agree and tell nothing beside an error.
func holdTogether(t *testing.T, s string) {
	t.Helper()
	errno, place := statute.CheckHigh(s)
	if errno != api.OK && errno != api.ErrLong && errno != api.ErrForm && errno != api.ErrBig {
		t.Errorf("P3: CheckHigh(%.90q): %d", s, errno)
	}
	if place < 0 || place > api.MaxTokens || errno != api.ErrForm && place != 0 {
		t.Errorf("P3: CheckHigh(%.90q) = %d, %d", s, errno, place)
	}
	printed, printErrno := statute.PrintHigh(s)
	if printErrno != errno || (printed == "") != (errno != api.OK) {
		t.Errorf("P1, P4: PrintHigh(%.90q) = %q, %d beside %d", s, printed, printErrno, errno)
	}
	for _, home := range homes {
		told, runErrno := statute.RunHigh(s, home)
		if runErrno != errno && (errno != api.OK || runErrno != api.ErrHome) {
			t.Errorf("P5: RunHigh(%.90q, %v): %d beside %d", s, home, runErrno, errno)
		}
		if (len(told) == 0) != (runErrno != api.OK) {
			t.Errorf("P1: RunHigh(%.90q, %v) = %v, %d", s, home, told, runErrno)
		}
	}
}

func TestP1AnyText(t *testing.T) {
	for _, s := range []string{
		"", " ", "\n", "#", "\x00", "\xff\xfe", "-", "in", "\u00e4\u20ac", strings.Repeat("\x00", 6000), strings.Repeat("#\n", 3000), strings.Repeat("a ", 3000),
		strings.Repeat("in ", 2000), strings.Repeat("9", 6000), strings.Repeat("x", 6001), strings.Repeat("x", 1<<20),
	} {
		holdTogether(t, s)
	}
	for b := range 256 {
		holdTogether(t, string([]byte{byte(b)}))
		holdTogether(t, "in x 0 9 out y x"+string([]byte{byte(b)}))
		holdTogether(t, "in x 0 9 out y add x "+string([]byte{byte(b)}))
	}
}

func TestP1DeepTexts(t *testing.T) {
	for _, head := range []string{
		" add", " sub x", " mul 1", " mul 1000", " min", " max 1", " if", " if not", " div near", " tab", " if lt", " if and", " add 1 div up", " if eq x x x",
		" if lt x" + strings.Repeat(" if lt x 1", 9),
	} {
		for _, n := range []int{1, 10, 100, 290, 590, 1000} {
			s := one + "out y" + strings.Repeat(head, n)
			holdTogether(t, s)
			holdTogether(t, s+strings.Repeat(" x", n+1))
		}
	}
	nots := one + "out y if" + strings.Repeat(" not", 588) + " lt x 5 1 0"
	tryChecks(t, []check{fine(nots), wrong(one+"out y if"+strings.Repeat(" not", 589)+" lt x 5 1 0", 600)})
	tryRuns(t, []run{{nots, []int{4}, []int{1}}, {nots, []int{5}, []int{0}}})
}

// Every cut and every change of one token of a right text.
func TestP1BrokenTexts(t *testing.T) {
	printed, errno := statute.PrintHigh(taxes)
	if errno != api.OK {
		t.Fatal(errno)
	}
	for i := range taxes {
		holdTogether(t, taxes[:i])
		holdTogether(t, taxes[i:])
	}
	words := strings.Fields("in let set out add mul if div tab lt and not down flr sel x income due 0 -0 -1 1 7 1001 1000001 1000000000 1000000001 ?")
	list := strings.Fields(printed)
	for i := range list {
		for _, w := range words {
			changed := slices.Clone(list)
			changed[i] = w
			holdTogether(t, strings.Join(changed, " "))
			holdTogether(t, strings.Join(slices.Insert(slices.Clone(list), i, w), " "))
		}
		holdTogether(t, strings.Join(slices.Delete(slices.Clone(list), i, i+1), " "))
	}
}

// A token that may stand nowhere is the place, wherever it stands; so is the end of a text that is cut.
func TestP3PlaceOfAStrayToken(t *testing.T) {
	printed, _ := statute.PrintHigh(taxes)
	list := strings.Fields(printed)
	whole := []int{}
	for i, w := range list {
		if w == "out" && i > 0 && slices.Contains(list[:i], "out") {
			whole = append(whole, i)
		}
	}
	for i := range list {
		changed := slices.Clone(list)
		changed[i] = "?"
		tryChecks(t, []check{wrong(strings.Join(changed, "\n"), i)})
		if slices.Contains(whole, i) {
			tryChecks(t, []check{fine(strings.Join(list[:i], " "))})
		} else {
			tryChecks(t, []check{wrong(strings.Join(list[:i], " "), i)})
		}
	}
	tryChecks(t, []check{wrong(printed+"?", len(list))})
}

func TestP1TheFirstErrorIsTold(t *testing.T) {
	big := "in x 0 1000000000 out y mul 1000 mul 1000 add 1 x"
	tryChecks(t, []check{
		tooLong(padded("in x 9 0", api.MaxText+1)),
		tooLong(padded(big, api.MaxText+1)),
		wrong(big+" z", 13),
		wrong(big+" out y 1", 14),
		tooBig(padded(big, api.MaxText)),
	})
	for _, c := range []struct {
		s    string
		want api.Errno
	}{
		{padded(big, api.MaxText+1), api.ErrLong}, {big + " z", api.ErrForm}, {big, api.ErrBig}, {one + "out y x", api.ErrHome},
	} {
		if _, errno := statute.RunHigh(c.s, []int{-1}); errno != c.want {
			t.Errorf("P1: RunHigh(%.60q, -1): %d, want %d", c.s, errno, c.want)
		}
	}
}

func TestP2NothingHandedInIsWritten(t *testing.T) {
	all := []int{77, 5, 1, 88, 99}
	before := slices.Clone(all)
	for _, s := range []string{children, taxes, "in x 0 9", "in x 0 9 in k 0 3 out y k out z x out v x out w k"} {
		statute.RunHigh(s, all[1:3])
		statute.RunHigh(s, all[1:2])
		if !slices.Equal(all, before) {
			t.Fatalf("P2: RunHigh(%q) wrote into what was handed in: %v", s, all)
		}
	}
}

// fill writes into a list and into its spare room.
func fill(list []int) {
	list = list[:cap(list)]
	for i := range list {
		list[i] = -1234567
	}
}

func TestP2ListsAreFresh(t *testing.T) {
	all := []int{5, 1, 99}
	s := "in x 0 9 in k 0 3 out y x out z k"
	first, _ := statute.RunHigh(s, all[:2])
	second, _ := statute.RunHigh(s, all[:2])
	fill(first)
	if !slices.Equal(second, []int{5, 1}) || !slices.Equal(all, []int{5, 1, 99}) {
		t.Errorf("P2: a list that came out is shared: %v, %v", second, all)
	}
	third, _ := statute.RunHigh(s, all[:2])
	if !slices.Equal(third, []int{5, 1}) {
		t.Errorf("P2: a list that came out was kept: %v", third)
	}
	fill(all)
	if !slices.Equal(second, []int{5, 1}) || !slices.Equal(third, []int{5, 1}) {
		t.Errorf("P2: what was handed in is shared: %v, %v", second, third)
	}
}

func TestP2AnswersHangOnArgumentsAlone(t *testing.T) {
	texts := []string{taxes, children, "in x 0 9", brackets, "in x 0 1000000000 out y mul 1000 mul 1000 add 1 x", sum(297)}
	for _, s := range texts {
		errno, place := statute.CheckHigh(s)
		printed, _ := statute.PrintHigh(s)
		told, _ := statute.RunHigh(s, []int{5, 1})
		for _, other := range texts {
			statute.CheckHigh(other)
			statute.PrintHigh(other)
			statute.RunHigh(other, []int{7, 2, 3})
			errnoNow, placeNow := statute.CheckHigh(s)
			printedNow, _ := statute.PrintHigh(s)
			toldNow, _ := statute.RunHigh(s, []int{5, 1})
			if errnoNow != errno || placeNow != place || printedNow != printed || !slices.Equal(toldNow, told) {
				t.Errorf("P2: behind %.40q, %.40q is answered otherwise", other, s)
			}
		}
	}
}
