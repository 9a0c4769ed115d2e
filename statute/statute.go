// Package statute: tax programs in two forms, and whether both come to the same: see DOC.md.
package statute

import (
	"statute/api"
	"statute/high"
	"statute/low"
	"statute/plan"
	"statute/search"
	"statute/solve"
	"statute/token"
)

// CheckHigh tells whether a text has the high form (P3).
func CheckHigh(s string) (api.Errno, int) {
	_, errno, place := high.Read(s)
	return errno, place
}

// PrintHigh writes a text of the high form anew (P4).
func PrintHigh(s string) (string, api.Errno) {
	_, errno, _ := high.Read(s)
	return printed(s, errno)
}

// RunHigh tells what a text of the high form comes to for a household (P5).
func RunHigh(s string, home []int) ([]int, api.Errno) {
	p, errno, _ := high.Read(s)
	return told(p, errno, home)
}

// CheckLow tells whether a text has the low form (P6).
func CheckLow(s string) (api.Errno, int) {
	_, errno, place := low.Read(s)
	return errno, place
}

// PrintLow writes a text of the low form anew (P7).
func PrintLow(s string) (string, api.Errno) {
	_, errno, _ := low.Read(s)
	return printed(s, errno)
}

// RunLow tells what a text of the low form comes to for a household (P8).
func RunLow(s string, home []int) ([]int, api.Errno) {
	p, errno, _ := low.Read(s)
	return told(p, errno, home)
}

// Solve tells the least numbers at which all rows hold (P9).
func Solve(vars []api.Range, rows []api.Row) ([]int, bool, api.Errno) {
	return solve.Least(vars, rows)
}

// Compare tells whether a text of the high form and one of the low form always come to the same (P10).
func Compare(high string, low string) (api.Verdict, api.Errno) {
	first, errno := readHigh(high)
	if errno != api.OK {
		return api.Verdict{}, errno
	}
	second, errno := readLow(low)
	if errno != api.OK {
		return api.Verdict{}, errno
	}
	if !plan.IsPair(first, second) {
		return api.Verdict{}, api.ErrPair
	}
	return verdict(first, second), api.OK
}

// readHigh and readLow stand apart from Compare, whose arguments have the names of the packages.
func readHigh(s string) (plan.Plan, api.Errno) {
	p, errno, _ := high.Read(s)
	return p, errno
}

func readLow(s string) (plan.Plan, api.Errno) {
	p, errno, _ := low.Read(s)
	return p, errno
}

// verdict tells whether two programs that are a pair come to the same for every household.
func verdict(first, second plan.Plan) api.Verdict {
	home, differ := search.First(first, second)
	if !differ {
		return api.Verdict{Same: true}
	}
	return api.Verdict{Home: home, Out: plan.FirstParting(first, second, home)}
}

// printed writes a text anew, unless reading it met an error.
func printed(s string, errno api.Errno) (string, api.Errno) {
	if errno != api.OK {
		return "", errno
	}
	list := token.Split(s)
	return token.Lines(list), api.OK
}

// told tells the values of a program's outs, unless reading its text met an error.
func told(p plan.Plan, errno api.Errno, home []int) ([]int, api.Errno) {
	if errno != api.OK {
		return nil, errno
	}
	if !p.IsHome(home) {
		return nil, api.ErrHome
	}
	return p.Run(home), api.OK
}
