package solve

import (
	"math/rand"
	"testing"

	"statute/api"
	"statute/whole"
)

// Point tells the first numbers of what Least tells, and those are the least there are.
func TestPoint(t *testing.T) {
	r := rand.New(rand.NewSource(11))
	found := 0
	for range 400 {
		vars := []api.Range{to(-5, 1000000), to(0, 50), to(-1000000, 1000000)}
		var rows []api.Row
		for range 3 {
			rows = append(rows, api.Row{C: factors(r, 3, 9), K: r.Intn(2001) - 1000, Equal: r.Intn(3) == 0})
		}
		want, ok, errno := Least(vars, rows)
		if errno != api.OK {
			t.Fatal(errno)
		}
		all := regionOf(vars, rows)
		for first := 0; first <= 3; first++ {
			point, isFound := Point(3, all.zero, all.least, first)
			if isFound != ok {
				t.Fatalf("%v: the first %d are found: %v", rows, first, isFound)
			}
			for i := 0; i < first && ok; i++ {
				if whole.Compare(point[i], whole.Of(want[i])) != 0 {
					t.Fatalf("%v: the first %d are %v, want %v", rows, first, point, want)
				}
			}
		}
		if ok {
			found++
		}
	}
	if found < 100 || found > 390 {
		t.Errorf("%d found", found)
	}
}
