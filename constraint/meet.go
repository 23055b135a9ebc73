package constraint

import "treasury/api"

// exact is a sum of totals, of which there may be more than an int can hold together: high times MaxTotal plus low, with low from 0 to MaxTotal - 1.
type exact struct{ high, low int }

// plus returns the sum with one more total.
func (x exact) plus(n int) exact {
	x.low += n
	switch {
	case x.low >= api.MaxTotal:
		return exact{x.high + 1, x.low - api.MaxTotal}
	case x.low < 0:
		return exact{x.high - 1, x.low + api.MaxTotal}
	}
	return x
}

// isArc reports whether an arc leads from a place of a network to one, and carries totals.
func isArc(n api.Net, a api.Arc) bool {
	isPlace := func(p int) bool { return 0 <= p && p < n.Places }
	isTotal := func(n int) bool { return 0 <= n && n <= api.MaxTotal }
	return isPlace(a.From) && isPlace(a.To) && isTotal(a.Low) && isTotal(a.High)
}
