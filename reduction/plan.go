package reduction

import (
	"cmp"
	"slices"

	"treasury/api"
	"treasury/rights"
)

// Plan returns for each office what a plan takes from it, so that a shortfall becomes smaller.
func Plan(p api.Pot) []int {
	if !plannable(p) {
		return nil
	}
	rest := rights.Shortfall(p)
	idle := make([]int, len(p.Granted))
	offices := make([]int, len(p.Granted))
	for k := range idle {
		unused := max(p.Granted[k]-p.Heard[k]-p.Used[k], 0)
		asked := max(min(unused, p.Asked[k]-p.Heard[k]), 0)
		rest -= asked
		idle[k], offices[k] = unused-asked, k
	}
	// The sort is stable, so that of offices with equal amounts the one with the lesser number comes first.
	slices.SortStableFunc(offices, func(a, b int) int { return cmp.Compare(idle[b], idle[a]) })
	plan := make([]int, len(idle))
	for _, k := range offices {
		plan[k] = max(min(idle[k], rest), 0)
		rest -= plan[k]
	}
	return plan
}

// plannable reports whether the lists of a pot have the same length, and its numbers are in their ranges.
func plannable(p api.Pot) bool {
	if p.Total < -api.MaxTotal || p.Total > api.MaxTotal {
		return false
	}
	for _, l := range [][]int{p.Granted, p.Heard, p.Asked, p.Used} {
		if len(l) != len(p.Granted) || slices.ContainsFunc(l, func(n int) bool { return n < 0 || n > api.MaxTotal }) {
			return false
		}
	}
	return true
}
