// Package money is layer 1: it computes with amounts, exactly. See shared/doc/01-money.md.
package money

import (
	"cmp"
	"slices"

	"treasury/api"
)

// Valid reports whether n is an amount.
func Valid(n int) bool { return within(n, 0, api.MaxAmount) }

// Total reports whether n is a total.
func Total(n int) bool { return within(n, -api.MaxTotal, api.MaxTotal) }

// Add returns the sum of two totals.
func Add(a, b int) (int, api.Errno) {
	// The arguments are checked ahead of the sum: that of two totals cannot wrap.
	if !Total(a) || !Total(b) || !Total(a+b) {
		return 0, api.ErrRange
	}
	return a + b, api.OK
}

// Sum returns the sum of totals; every sum on the way is a total too.
func Sum(l []int) (int, api.Errno) {
	sum := 0
	for _, n := range l {
		next, e := Add(sum, n)
		if e != api.OK {
			return 0, e
		}
		sum = next
	}
	return sum, api.OK
}

// Percent returns so many hundredths of an amount, rounded down.
func Percent(amount, percent int) (int, api.Errno) {
	if !Valid(amount) || !within(percent, 0, 100) {
		return 0, api.ErrRange
	}
	return amount * percent / 100, api.OK
}

// Share returns num / den of an amount, rounded to the nearest whole number, a half up.
func Share(amount, num, den int) (int, api.Errno) {
	if !Valid(amount) || !weight(num) || !within(den, 1, api.MaxWeight) {
		return 0, api.ErrRange
	}
	// Twice the exact share plus a half, over twice den: at most 2 * MaxAmount * MaxWeight + MaxWeight, which an int holds.
	share := (2*amount*num + den) / (2 * den)
	if !Valid(share) {
		return 0, api.ErrRange
	}
	return share, api.OK
}

// Parts divides an amount among weights, so that the parts add up to it.
func Parts(total int, weights []int) ([]int, api.Errno) {
	if !Valid(total) || slices.ContainsFunc(weights, func(w int) bool { return !weight(w) }) {
		return nil, api.ErrRange
	}
	if len(weights) > api.MaxParts {
		return nil, api.ErrLimit
	}
	sum := 0
	for _, w := range weights {
		sum += w
	}
	if sum == 0 {
		return nil, api.ErrInvalid
	}
	return divide(total, weights, sum), api.OK
}

// divide rounds all parts down and gives what is left over to those that lost most by it.
func divide(total int, weights []int, sum int) []int {
	parts := make([]int, len(weights))
	rests := make([]int, len(weights))
	left := total
	for i, w := range weights {
		parts[i], rests[i] = total*w/sum, total*w%sum
		left -= parts[i]
	}
	// The rests add up to left * sum and each is less than sum, so that left is less than the number of parts with a rest.
	for _, i := range greatestFirst(rests)[:left] {
		parts[i]++
	}
	return parts
}

// greatestFirst returns the places of the rests, those of the greatest ones first, those of equal ones in their order.
func greatestFirst(rests []int) []int {
	places := make([]int, len(rests))
	for i := range places {
		places[i] = i
	}
	slices.SortStableFunc(places, func(a, b int) int { return cmp.Compare(rests[b], rests[a]) })
	return places
}

// weight reports whether n is a weight of a share.
func weight(n int) bool { return within(n, 0, api.MaxWeight) }

// within reports whether n is from least to most.
func within(n, least, most int) bool { return least <= n && n <= most }
