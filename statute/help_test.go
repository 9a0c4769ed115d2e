package statute_test

import (
	"strconv"
	"strings"
)

const one = "in x 0 9 "

// taxes: a text that has everything of the high form in it.
const taxes = `# of a household
in income -1000000 1000000000 in kids 0 20
in rent 0 5000 # each month
let base max 0 sub income mul 900 kids
let tax div near tab base 3 10000 14 60000 42 250000 45 100
let aid if and lt income 30000 not eq kids 0 mul 250 kids div up rent 3
out due if or le tax aid eq rent 5000 0 sub tax aid
out paid min aid div zero tax 12
out rest div down sub income tax 7`

// lets makes a text with so many lets, inputs one with so many inputs, outs one with so many outs.
func lets(n int) string {
	s := one
	for i := range n {
		s += "let l" + strconv.Itoa(i) + " x "
	}
	return s + "out y x"
}

func inputs(n int) string {
	s := ""
	for i := range n {
		s += "in i" + strconv.Itoa(i) + " 0 9 "
	}
	return s + "out y i0"
}

func outs(n int) string {
	s := one
	for i := range n {
		s += "out o" + strconv.Itoa(i) + " x "
	}
	return s
}

// table makes a text with a table of so many bands.
func table(n int) string {
	s := one + "out y tab x " + strconv.Itoa(n)
	for i := range n {
		s += " " + strconv.Itoa(i) + " 1"
	}
	return s
}

// sum makes a text of 7 + 2n tokens.
func sum(n int) string {
	return one + "out y" + strings.Repeat(" add x", n) + " x"
}

// padded fills a text with blanks up to so many bytes.
func padded(s string, n int) string {
	return s + strings.Repeat(" ", n-len(s))
}

// steps makes a text with so many steps.
func steps(n int) string {
	s := one
	for i := range n {
		s += "set s" + strconv.Itoa(i) + " add x 1 "
	}
	return s + "out y x"
}

// lowTaxes: a text that has everything of the low form in it.
const lowTaxes = `# of a household
in income -1000000 1000000000 in kids 0 20
in rent 0 5000 # each month
set free mul 900 kids set base sub income free
set poor le base 0 set none eq kids 0
set many lt 3 kids
set fam not none set both and poor fam set any or both many
set rate flr base 7
set tax sel poor 0 rate
set more add tax rent
set due sel any more tax
out due0 due out rest more out fix 12`
