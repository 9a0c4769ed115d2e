// Package token: the tokens of a text, and which of them are numbers or names.
package token

import "statute/api"

// Split tells the tokens of a text, in their order.
func Split(s string) []string {
	var list []string
	at := 0
	for at < len(s) {
		end := runEnd(s, at)
		if end > at {
			list = append(list, s[at:end])
			at = end
		} else if s[at] == '#' {
			at = remarkEnd(s, at)
		} else {
			at++
		}
	}
	return list
}

// runEnd tells where the token that begins at a place ends; it is that place if none begins there.
func runEnd(s string, at int) int {
	for at < len(s) && s[at] != ' ' && s[at] != '\n' && s[at] != '#' {
		at++
	}
	return at
}

func remarkEnd(s string, at int) int {
	for at < len(s) && s[at] != '\n' {
		at++
	}
	return at
}

// Number tells the number that a token is, and whether it is one.
func Number(t string) (int, bool) {
	digits := t
	negative := len(t) > 0 && t[0] == '-'
	if negative {
		digits = t[1:]
	}
	if digits == "0" {
		return 0, !negative
	}
	if digits == "" || digits[0] == '0' {
		return 0, false
	}
	n := 0
	for i := 0; i < len(digits); i++ {
		if !isDigit(digits[i]) {
			return 0, false
		}
		n = 10*n + int(digits[i]-'0')
		// At once, so that no run of digits is too long for an int.
		if n > api.MaxNumber {
			return 0, false
		}
	}
	if negative {
		n = -n
	}
	return n, true
}

// IsName tells whether a token may be a name.
func IsName(t string) bool {
	if t == "" || len(t) > api.MaxName || !isLetter(t[0]) {
		return false
	}
	for i := 1; i < len(t); i++ {
		if !isLetter(t[i]) && !isDigit(t[i]) {
			return false
		}
	}
	return !isKeyword(t)
}

func isDigit(b byte) bool {
	return b >= '0' && b <= '9'
}

func isLetter(b byte) bool {
	return b >= 'a' && b <= 'z'
}

// isKeyword knows the words of both forms: those of the one are no names in the other either.
func isKeyword(t string) bool {
	switch t {
	case "in", "let", "set", "out":
		return true
	case "add", "sub", "mul", "min", "max", "if", "div", "tab":
		return true
	case "lt", "le", "eq", "and", "or", "not":
		return true
	case "down", "up", "zero", "near", "flr", "sel":
		return true
	}
	return false
}
