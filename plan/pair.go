package plan

// IsPair tells whether two programs have the same inputs, by name and by range, and outs of the same names, each in the
// same order.
func IsPair(a, b Plan) bool {
	if len(a.Inputs) != len(b.Inputs) || !sameNames(a.InputNames, b.InputNames) || !sameNames(a.OutNames, b.OutNames) {
		return false
	}
	for i := 0; i < len(a.Inputs); i++ {
		if a.Inputs[i] != b.Inputs[i] {
			return false
		}
	}
	return true
}

func sameNames(a, b []string) bool {
	if len(a) != len(b) {
		return false
	}
	for i := 0; i < len(a); i++ {
		if a[i] != b[i] {
			return false
		}
	}
	return true
}

// FirstParting tells the number of the first out whose values part for a household; -1 if none does.
func FirstParting(a, b Plan, home []int) int {
	x := a.Run(home)
	y := b.Run(home)
	for i := 0; i < len(x) && i < len(y); i++ {
		if x[i] != y[i] {
			return i
		}
	}
	return -1
}
