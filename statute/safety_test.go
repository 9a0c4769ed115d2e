package statute_test

import (
	"slices"
	"strings"
	"testing"

	"statute/api"
	"statute/statute"
)

var homes = [][]int{nil, {}, {0}, {5}, {-1 << 63}, {1<<63 - 1}, {0, 0}, {0, 0, 0}, {1, 2, 3, 4}, {1, 2, 3, 4, 5}}

// calls: those of one form.
type calls struct {
	name  string
	check func(string) (api.Errno, int)
	print func(string) (string, api.Errno)
	run   func(string, []int) ([]int, api.Errno)
}

var forms = []calls{
	{"High", statute.CheckHigh, statute.PrintHigh, statute.RunHigh},
	{"Low", statute.CheckLow, statute.PrintLow, statute.RunLow},
}

// holdTogether asks the calls of both forms about one text, and whether they agree and tell nothing beside an error.
func holdTogether(t *testing.T, s string) {
	t.Helper()
	for _, f := range forms {
		f.holdTogether(t, s)
	}
}

func (f calls) holdTogether(t *testing.T, s string) {
	t.Helper()
	errno, place := f.check(s)
	if errno != api.OK && errno != api.ErrLong && errno != api.ErrForm && errno != api.ErrBig {
		t.Errorf("P3, P6: Check%s(%.90q): %d", f.name, s, errno)
	}
	if place < 0 || place > api.MaxTokens || errno != api.ErrForm && place != 0 {
		t.Errorf("P3, P6: Check%s(%.90q) = %d, %d", f.name, s, errno, place)
	}
	printed, printErrno := f.print(s)
	if printErrno != errno || (printed == "") != (errno != api.OK) {
		t.Errorf("P1, P4, P7: Print%s(%.90q) = %q, %d beside %d", f.name, s, printed, printErrno, errno)
	}
	for _, home := range homes {
		told, runErrno := f.run(s, home)
		if runErrno != errno && (errno != api.OK || runErrno != api.ErrHome) {
			t.Errorf("P5, P8: Run%s(%.90q, %v): %d beside %d", f.name, s, home, runErrno, errno)
		}
		if (len(told) == 0) != (runErrno != api.OK) {
			t.Errorf("P1: Run%s(%.90q, %v) = %v, %d", f.name, s, home, told, runErrno)
		}
	}
}

func TestP1AnyText(t *testing.T) {
	for _, s := range []string{
		"", " ", "\n", "#", "\x00", "\xff\xfe", "-", "in", "\u00e4\u20ac", strings.Repeat("\x00", 6000), strings.Repeat("#\n", 3000), strings.Repeat("a ", 3000),
		strings.Repeat("in ", 2000), strings.Repeat("9", 6000), strings.Repeat("x", 6001), strings.Repeat("x", 1<<20),
	} {
		holdTogether(t, s)
	}
	for b := range 256 {
		holdTogether(t, string([]byte{byte(b)}))
		holdTogether(t, "in x 0 9 out y x"+string([]byte{byte(b)}))
		holdTogether(t, "in x 0 9 out y add x "+string([]byte{byte(b)}))
		holdTogether(t, "in x 0 9 set a add x "+string([]byte{byte(b)})+" out y a")
	}
}

func TestP1DeepTexts(t *testing.T) {
	for _, head := range []string{
		" add", " sub x", " mul 1", " mul 1000", " min", " max 1", " if", " if not", " div near", " tab", " if lt", " if and", " add 1 div up", " if eq x x x",
		" if lt x" + strings.Repeat(" if lt x 1", 9),
	} {
		for _, n := range []int{1, 10, 100, 290, 590, 1000} {
			s := one + "out y" + strings.Repeat(head, n)
			holdTogether(t, s)
			holdTogether(t, s+strings.Repeat(" x", n+1))
		}
	}
	nots := one + "out y if" + strings.Repeat(" not", 588) + " lt x 5 1 0"
	tryChecks(t, []check{fine(nots), wrong(one+"out y if"+strings.Repeat(" not", 589)+" lt x 5 1 0", 600)})
	tryRuns(t, []run{{nots, []int{4}, []int{1}}, {nots, []int{5}, []int{0}}})
}

// Every cut and every change of one token of a right text.
func TestP1BrokenTexts(t *testing.T) {
	breakText(t, taxes, forms[0])
	breakText(t, lowTaxes, forms[1])
}

func breakText(t *testing.T, s string, f calls) {
	t.Helper()
	printed, errno := f.print(s)
	if errno != api.OK {
		t.Fatal(errno)
	}
	for i := range s {
		holdTogether(t, s[:i])
		holdTogether(t, s[i:])
	}
	words := strings.Fields("in let set out add mul if div tab lt and not down flr sel x income due poor base 0 -0 -1 1 7 1001 1000001 1000000000 1000000001 ?")
	list := strings.Fields(printed)
	for i := range list {
		for _, w := range words {
			changed := slices.Clone(list)
			changed[i] = w
			holdTogether(t, strings.Join(changed, " "))
			holdTogether(t, strings.Join(slices.Insert(slices.Clone(list), i, w), " "))
		}
		holdTogether(t, strings.Join(slices.Delete(slices.Clone(list), i, i+1), " "))
	}
}

// A token that may stand nowhere is the place, wherever it stands; so is the end of a text that is cut.
func TestP3PlaceOfAStrayToken(t *testing.T) {
	tryStrayTokens(t, taxes, forms[0], tryChecks)
}

func TestP6PlaceOfAStrayToken(t *testing.T) {
	tryStrayTokens(t, lowTaxes, forms[1], tryLowChecks)
}

func tryStrayTokens(t *testing.T, s string, f calls, try func(*testing.T, []check)) {
	t.Helper()
	printed, _ := f.print(s)
	list := strings.Fields(printed)
	if len(list) < 60 {
		t.Fatalf("%d tokens", len(list))
	}
	for i, w := range list {
		changed := slices.Clone(list)
		changed[i] = "?"
		try(t, []check{wrong(strings.Join(changed, "\n"), i)})
		cut := wrong(strings.Join(list[:i], " "), i)
		if w == "out" && slices.Contains(list[:i], "out") {
			cut = fine(cut.s)
		}
		try(t, []check{cut})
	}
	try(t, []check{wrong(printed+"?", len(list))})
}

// Where a part of a text ends too early, the first token of the next part is the place.
func TestP3PlaceBehindAnUnfinishedPart(t *testing.T) {
	tryUnfinishedParts(t, taxes, forms[0], tryChecks)
}

func TestP6PlaceBehindAnUnfinishedPart(t *testing.T) {
	tryUnfinishedParts(t, lowTaxes, forms[1], tryLowChecks)
}

func tryUnfinishedParts(t *testing.T, s string, f calls, try func(*testing.T, []check)) {
	t.Helper()
	printed, _ := f.print(s)
	lines := strings.Split(strings.TrimSuffix(printed, "\n"), "\n")
	ahead := 0
	for i, line := range lines {
		list := strings.Fields(line)
		for n := 1; n < len(list) && i+1 < len(lines); n++ {
			changed := slices.Clone(lines)
			changed[i] = strings.Join(list[:n], " ")
			try(t, []check{wrong(strings.Join(changed, "\n"), ahead+n)})
		}
		ahead += len(list)
	}
}

func TestP1TheFirstErrorIsTold(t *testing.T) {
	big := "in x 0 1000000000 out y mul 1000 mul 1000 add 1 x"
	tryChecks(t, []check{
		tooLong(padded("in x 9 0", api.MaxText+1)), tooLong(padded(big, api.MaxText+1)),
		wrong(big+" z", 13), wrong(big+" out y 1", 14), tooBig(padded(big, api.MaxText)),
	})
	lowBig := "in x 0 1000000000 set a mul 1000 x set b mul 1000 a set c add b 1 out y x"
	tryLowChecks(t, []check{
		tooLong(padded("in x 9 0", api.MaxText+1)), tooLong(padded(lowBig, api.MaxText+1)),
		wrong(lowBig+" z", 22), wrong(lowBig+" out y 1", 23), tooBig(padded(lowBig, api.MaxText)),
	})
	for i, s := range []string{big, lowBig} {
		for _, c := range []struct {
			s    string
			want api.Errno
		}{
			{padded(s, api.MaxText+1), api.ErrLong}, {s + " z", api.ErrForm}, {s, api.ErrBig}, {one + "out y x", api.ErrHome},
		} {
			if _, errno := forms[i].run(c.s, []int{-1}); errno != c.want {
				t.Errorf("P1: Run%s(%.60q, -1): %d, want %d", forms[i].name, c.s, errno, c.want)
			}
		}
	}
}

func TestP2NothingHandedInIsWritten(t *testing.T) {
	all := []int{77, 5, 1, 88, 99}
	before := slices.Clone(all)
	for _, f := range forms {
		for _, s := range []string{children, taxes, "in x 0 9", "in x 0 9 in k 0 3 out y k out z x out v x out w k", "in x 0 9 in k 0 3 set a add x k set b sub a k out y b out z a", lowTaxes, even} {
			f.run(s, all[1:3])
			f.run(s, all[1:2])
			if !slices.Equal(all, before) {
				t.Fatalf("P2: Run%s(%q) wrote into what was handed in: %v", f.name, s, all)
			}
		}
	}
}

// fill writes into a list and into its spare room.
func fill(list []int) {
	list = list[:cap(list)]
	for i := range list {
		list[i] = -1234567
	}
}

func TestP2ListsAreFresh(t *testing.T) {
	for _, f := range forms {
		all := []int{5, 1, 99}
		s := "in x 0 9 in k 0 3 out y x out z k"
		first, _ := f.run(s, all[:2])
		second, _ := f.run(s, all[:2])
		fill(first)
		if !slices.Equal(second, []int{5, 1}) || !slices.Equal(all, []int{5, 1, 99}) {
			t.Errorf("P2: a list that Run%s told is shared: %v, %v", f.name, second, all)
		}
		third, _ := f.run(s, all[:2])
		if !slices.Equal(third, []int{5, 1}) {
			t.Errorf("P2: a list that Run%s told was kept: %v", f.name, third)
		}
		fill(all)
		if !slices.Equal(second, []int{5, 1}) || !slices.Equal(third, []int{5, 1}) {
			t.Errorf("P2: what was handed to Run%s is shared: %v, %v", f.name, second, third)
		}
	}
}

func TestP2AnswersHangOnArgumentsAlone(t *testing.T) {
	texts := []string{
		taxes, children, "in x 0 9", brackets, "in x 0 1000000000 out y mul 1000 mul 1000 add 1 x", sum(297),
		lowTaxes, even, "in x 0 9 in k 0 3 set a add x k out y a", "in x 0 1000000000 set a mul 1000 x set b mul 1000 a set c add b 1 out y x",
	}
	for i, s := range texts {
		f := forms[i/6]
		errno, place := f.check(s)
		printed, _ := f.print(s)
		told, _ := f.run(s, []int{5, 1})
		for _, other := range texts {
			for _, g := range forms {
				g.check(other)
				g.print(other)
				g.run(other, []int{7, 2, 3})
			}
			errnoNow, placeNow := f.check(s)
			printedNow, _ := f.print(s)
			toldNow, _ := f.run(s, []int{5, 1})
			if errnoNow != errno || placeNow != place || printedNow != printed || !slices.Equal(toldNow, told) {
				t.Errorf("P2: behind %.40q, %.40q is answered otherwise", other, s)
			}
		}
	}
}
