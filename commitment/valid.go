package commitment

import (
	"treasury/api"
	"treasury/calendar"
	"treasury/classification"
)

const (
	maxDay  = api.MaxDay - 10
	maxYear = 99
)

// Valid reports whether a book is valid. It goes through each list once, as books are checked at every step of an office.
func Valid(b api.Book) bool {
	return max(len(b.Reservations), len(b.Commitments), len(b.Verifications), len(b.Orders)) <= api.MaxBook &&
		validReservations(b) && validCommitments(b) && validVerifications(b) && validOrders(b)
}

func validReservations(b api.Book) bool {
	for i, r := range b.Reservations {
		if r.Number != i+1 || !isCode(r.Code) || !isYear(r.Year) || !isDay(r.Day) || calendar.Year(r.Day) != r.Year || !isAmount(r.Amount) || !within(r.Released, 0, r.Amount) {
			return false
		}
	}
	return true
}

// validCommitments reports whether the commitments are valid, of valid reservations, and leave nothing negative of these.
func validCommitments(b api.Book) bool {
	taken := make([]int, len(b.Reservations))
	for i, c := range b.Commitments {
		if c.Number != i+1 || !within(c.Reservation, 1, len(b.Reservations)) {
			return false
		}
		r := b.Reservations[c.Reservation-1]
		if !within(c.Day, r.Day, maxDay) || calendar.Year(c.Day) != r.Year || !isAmount(c.Amount) || !within(c.Released, 0, c.Amount) || !isNumber(c.Payee) || !isDay(c.Due) {
			return false
		}
		taken[r.Number-1] += c.Amount
		if taken[r.Number-1] > r.Amount-r.Released {
			return false
		}
	}
	return true
}

// validVerifications reports whether the verifications are valid, of valid commitments, and leave nothing negative of these.
func validVerifications(b api.Book) bool {
	taken := make([]int, len(b.Commitments))
	for i, v := range b.Verifications {
		if v.Number != i+1 || !within(v.Commitment, 1, len(b.Commitments)) {
			return false
		}
		c := b.Commitments[v.Commitment-1]
		if !within(v.Day, c.Day, maxDay) || calendar.Year(v.Day) > lastYear(b, c) || !isAmount(v.Amount) {
			return false
		}
		taken[c.Number-1] += v.Amount
		if taken[c.Number-1] > c.Amount-c.Released {
			return false
		}
	}
	return true
}

// validOrders reports whether the orders are valid, of valid verifications.
func validOrders(b api.Book) bool {
	last := make([]api.Order, len(b.Verifications))
	for i, o := range b.Orders {
		if o.Number != i+1 || !within(o.Verification, 1, len(b.Verifications)) {
			return false
		}
		v, before := b.Verifications[o.Verification-1], last[o.Verification-1]
		if !within(o.Day, max(v.Day, before.Day), maxDay) || calendar.Year(o.Day) > lastYear(b, b.Commitments[v.Commitment-1]) {
			return false
		}
		if o.Attempt != before.Attempt+1 || before.Attempt > 0 && !before.Back {
			return false
		}
		last[v.Number-1] = o
	}
	return true
}

// lastYear returns the last year in which a commitment can be verified, and ordered: the one behind that of its reservation.
func lastYear(b api.Book, c api.Commitment) int { return b.Reservations[c.Reservation-1].Year + 1 }

func isCode(code string) bool { return len(classification.Parts(code)) > 0 }

func isYear(year int) bool { return within(year, 0, maxYear) }

func isDay(day int) bool { return within(day, 0, maxDay) }

func isAmount(n int) bool { return within(n, 1, api.MaxAmount) }

func isNumber(n int) bool { return within(n, 1, api.MaxNumber) }

// within reports whether n is from least to most.
func within(n, least, most int) bool { return least <= n && n <= most }
