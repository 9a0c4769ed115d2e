package token

// Lines writes the tokens of a text that has a form, each of its parts on a line of its own.
func Lines(list []string) string {
	var text []byte
	for i := 0; i < len(list); i++ {
		if i > 0 {
			text = append(text, gap(list[i]))
		}
		text = append(text, list[i]...)
	}
	if len(list) > 0 {
		text = append(text, '\n')
	}
	return string(text)
}

// gap tells what stands ahead of a token that is not the first. No name is a keyword, so in a text that has a form
// these words stand at the head of a part and nowhere else.
func gap(t string) byte {
	switch t {
	case "in", "let", "set", "out":
		return '\n'
	}
	return ' '
}
