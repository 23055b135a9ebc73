package commitment

import (
	"slices"

	"treasury/api"
)

// Used returns what a book has used of a leaf and a year.
func Used(b api.Book, code string, year int) int {
	used := 0
	for _, r := range b.Reservations {
		if r.Code == code && r.Year == year {
			used += r.Amount - r.Released - sum(b.Commitments, under(r), func(c api.Commitment) int { return c.Released })
		}
	}
	return used
}

// Left returns what is left of a reservation, and 0 if there is none.
func Left(b api.Book, reservation int) int {
	i := slices.IndexFunc(b.Reservations, func(r api.Reservation) bool { return r.Number == reservation })
	if i < 0 {
		return 0
	}
	return leftOfReservation(b, b.Reservations[i])
}

// Open returns the commitments of a year of which something is left.
func Open(b api.Book, office, year int) []api.Open {
	if !Valid(b) {
		return nil
	}
	var open []api.Open
	for _, c := range b.Commitments {
		r, left := b.Reservations[c.Reservation-1], leftOfCommitment(b, c)
		if r.Year == year && left > 0 {
			open = append(open, api.Open{Office: office, Commitment: c.Number, Code: r.Code, Year: r.Year, Amount: left})
		}
	}
	return open
}

// Unpaid returns the verifications without an order, or whose last order came back.
func Unpaid(b api.Book, office int) []api.Owed {
	if !Valid(b) {
		return nil
	}
	var owed []api.Owed
	for _, v := range b.Verifications {
		order, found := lastOrder(b, v)
		if found && !order.Back {
			continue
		}
		c := b.Commitments[v.Commitment-1]
		owed = append(owed, api.Owed{Office: office, Verification: v.Number, Attempt: order.Attempt + 1, Payee: c.Payee, Amount: v.Amount, Due: c.Due})
	}
	return owed
}

// Sums returns what is left of the reservations for a code and a year, what is committed, what is verified, and what is ordered.
func Sums(b api.Book, code string, year int) (int, int, int, int) {
	if !Valid(b) {
		return 0, 0, 0, 0
	}
	wanted := func(reservation int) bool {
		r := b.Reservations[reservation-1]
		return r.Code == code && r.Year == year
	}
	var left, committed, verified, ordered int
	for _, r := range b.Reservations {
		if wanted(r.Number) {
			left += leftOfReservation(b, r)
		}
	}
	for _, c := range b.Commitments {
		if wanted(c.Reservation) {
			committed += c.Amount - c.Released
		}
	}
	for _, v := range b.Verifications {
		if !wanted(b.Commitments[v.Commitment-1].Reservation) {
			continue
		}
		verified += v.Amount
		if order, found := lastOrder(b, v); found && !order.Back {
			ordered += v.Amount
		}
	}
	return left, committed, verified, ordered
}

// leftOfReservation returns what is left of a reservation.
func leftOfReservation(b api.Book, r api.Reservation) int {
	return r.Amount - r.Released - sum(b.Commitments, under(r), func(c api.Commitment) int { return c.Amount })
}

// leftOfCommitment returns what is left of a commitment.
func leftOfCommitment(b api.Book, c api.Commitment) int {
	its := func(v api.Verification) bool { return v.Commitment == c.Number }
	return c.Amount - c.Released - sum(b.Verifications, its, func(v api.Verification) int { return v.Amount })
}

// lastOrder returns the last order of a verification, and whether there is one.
func lastOrder(b api.Book, v api.Verification) (api.Order, bool) {
	for _, o := range slices.Backward(b.Orders) {
		if o.Verification == v.Number {
			return o, true
		}
	}
	return api.Order{}, false
}

// under returns what says whether a commitment is made under a reservation.
func under(r api.Reservation) func(api.Commitment) bool {
	return func(c api.Commitment) bool { return c.Reservation == r.Number }
}

// sum returns the sum of the amounts of those entries that belong to another one.
func sum[T any](l []T, belongs func(T) bool, amount func(T) int) int {
	sum := 0
	for _, x := range l {
		if belongs(x) {
			sum += amount(x)
		}
	}
	return sum
}
