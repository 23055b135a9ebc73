package batch

import (
	"cmp"
	"slices"

	"treasury/api"
	"treasury/calendar"
)

const (
	maxDue = api.MaxDay - 10
	maxSub = 1000
)

// Payment reports whether a payment is valid.
func Payment(p api.Payment) bool {
	return isNumber(p.Warrant) && isNumber(p.Payee) && within(p.Amount, 1, api.MaxAmount) && within(p.Due, 0, maxDue) && within(p.Sub, 1, maxSub)
}

// Check returns the first error that applies to a queue.
func Check(q api.Queue) api.Errno {
	switch {
	case len(q.Waiting) > api.MaxQueue || len(q.Known) > api.MaxWarrants || len(q.Batches) > api.MaxWarrants:
		return api.ErrLimit
	case !rightKnown(q.Known) || !rightPayments(q.Waiting, q.Known) || !rightBatches(q):
		return api.ErrPayment
	}
	return api.OK
}

// rightKnown reports whether the warrants that have been queued ascend, and are in their range.
func rightKnown(known []int) bool {
	for i, w := range known {
		if !isNumber(w) || i > 0 && known[i-1] >= w {
			return false
		}
	}
	return true
}

// rightBatches reports whether the batches are right.
func rightBatches(q api.Queue) bool {
	for i, b := range q.Batches {
		if b.Number != i+1 || !calendar.Business(b.Day) || i > 0 && q.Batches[i-1].Day > b.Day {
			return false
		}
		if !within(len(b.Payments), 1, api.MaxBatch) || !rightPayments(b.Payments, q.Known) {
			return false
		}
	}
	return true
}

// rightPayments reports whether payments are valid, in order, and each of another warrant, which is known.
func rightPayments(l []api.Payment, known []int) bool {
	for i, p := range l {
		if _, found := slices.BinarySearch(known, p.Warrant); !found || !Payment(p) || i > 0 && compare(l[i-1], p) >= 0 {
			return false
		}
	}
	return !twice(warrants(l))
}

// twice reports whether a warrant stands twice among others.
func twice(warrants []int) bool {
	seen := map[int]bool{}
	for _, w := range warrants {
		if seen[w] {
			return true
		}
		seen[w] = true
	}
	return false
}

// warrants returns the warrants of payments, in their order.
func warrants(l []api.Payment) []int {
	var all []int
	for _, p := range l {
		all = append(all, p.Warrant)
	}
	return all
}

func compare(a, b api.Payment) int {
	return cmp.Or(cmp.Compare(a.Due, b.Due), cmp.Compare(a.Warrant, b.Warrant))
}

func isNumber(n int) bool { return within(n, 1, api.MaxNumber) }

// within reports whether n is from least to most.
func within(n, least, most int) bool { return least <= n && n <= most }
