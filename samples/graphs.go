package samples

import "latchwork/api"

// Broad: a graph of 1000 Ins, with so many Ands, all of Ins.
func Broad(ands int) api.Graph {
	g := api.Graph{Ins: 1000, Ands: make([][2]int, 0, ands)}
	for a := 2; a < 2002; a++ {
		for b := a&^1 + 2; b < 2002 && len(g.Ands) < ands; b++ {
			g.Ands = append(g.Ands, [2]int{a, b})
		}
	}
	return g
}

// Values: whatever so many Ins, or variables, may be.
func Values(n int) [][]bool {
	var all [][]bool
	for bits := range 1 << n {
		values := make([]bool, n)
		for i := range values {
			values[i] = bits>>i&1 == 1
		}
		all = append(all, values)
	}
	return all
}
