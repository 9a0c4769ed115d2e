package token

import (
	"slices"
	"strings"
	"testing"
)

func TestSplit(t *testing.T) {
	for _, c := range []struct {
		s    string
		want []string
	}{
		{"", nil},
		{" \n \n", nil},
		{"#", nil},
		{"# in x", nil},
		{"a", []string{"a"}},
		{" a\n\nbc  d ", []string{"a", "bc", "d"}},
		{"in x#y\n0", []string{"in", "x", "0"}},
		{"#a\nb", []string{"b"}},
		{"a#b#c\nd#", []string{"a", "d"}},
		{"a#\n#\nb", []string{"a", "b"}},
		{"a\tb\rc\x00", []string{"a\tb\rc\x00"}},
		{"\xff\u00a0 \u2028", []string{"\xff\u00a0", "\u2028"}},
	} {
		got := Split(c.s)
		if !slices.Equal(got, c.want) {
			t.Errorf("Split(%q) = %q, want %q", c.s, got, c.want)
		}
	}
}

func TestNumber(t *testing.T) {
	for _, c := range []struct {
		s    string
		want int
	}{
		{"0", 0}, {"1", 1}, {"-1", -1}, {"10", 10}, {"-907", -907},
		{"1000000000", 1000000000}, {"-1000000000", -1000000000}, {"999999999", 999999999},
	} {
		got, ok := Number(c.s)
		if got != c.want || !ok {
			t.Errorf("Number(%q) = %d, %v, want %d", c.s, got, ok, c.want)
		}
	}
	for _, s := range []string{
		"", "-", "-0", "00", "01", "-01", "+1", "--1", "1-", "1x", "x1", "1.0", "1e3", "0x1", "1_0",
		"1000000001", "-1000000001", "18446744073709551616", "9223372036854775808",
		strings.Repeat("9", 5000), "0" + strings.Repeat("0", 50), "\u0661",
	} {
		got, ok := Number(s)
		if got != 0 || ok {
			t.Errorf("Number(%.30q) = %d, %v, want none", s, got, ok)
		}
	}
}

func TestIsName(t *testing.T) {
	for _, s := range []string{"a", "z", "a0", "z9", "abcdefgh", "a1234567", "inn", "i", "ifs", "adds", "set1"} {
		if !IsName(s) {
			t.Errorf("%q is no name", s)
		}
	}
	for _, s := range []string{"", "A", "0", "0a", "_", "a_", "aB", "a-", "-a", "abcdefghi", "a\x00", "\u00e4", "a{", "`", "a/", "a:"} {
		if IsName(s) {
			t.Errorf("%q is a name", s)
		}
	}
	keywords := strings.Fields("in let set out add sub mul min max if div tab lt le eq and or not down up zero near flr sel")
	if len(keywords) != 24 {
		t.Fatal("not all keywords")
	}
	for _, s := range keywords {
		if IsName(s) {
			t.Errorf("the keyword %q is a name", s)
		}
	}
}

func TestLines(t *testing.T) {
	for _, c := range []struct{ s, want string }{
		{"", ""},
		{"in x 0 9 out y x", "in x 0 9\nout y x\n"},
		{"in x 0 9 in k 1 2 let a add x k let b a out y b out z 1", "in x 0 9\nin k 1 2\nlet a add x k\nlet b a\nout y b\nout z 1\n"},
		{"in x 0 9 set c lt x 5 set d sel c x 5 out y d", "in x 0 9\nset c lt x 5\nset d sel c x 5\nout y d\n"},
	} {
		got := Lines(strings.Fields(c.s))
		if got != c.want {
			t.Errorf("Lines of %q = %q, want %q", c.s, got, c.want)
		}
	}
}
