package commitment

import (
	"fmt"
	"math/rand"
	"slices"
	"testing"

	"treasury/api"
	"treasury/calendar"
	"treasury/classification"
)

// The limits are written out here as the document has them, so that a wrong one shows.
const (
	mostAmount = 1000000000000
	mostNumber = 1000000
	mostBook   = 200
	lastDay    = 35990
)

// The year 12 has the days from 4320 to 4679, the year 13 those from 4680 to 5039.

func reservationOf(number int, code string, year, day, amount, released int) api.Reservation {
	return api.Reservation{Number: number, Code: code, Year: year, Day: day, Amount: amount, Released: released}
}

func commitmentOf(number, reservation, day, amount, released, payee, due int) api.Commitment {
	return api.Commitment{Number: number, Reservation: reservation, Day: day, Amount: amount, Released: released, Payee: payee, Due: due}
}

func verificationOf(number, commitment, day, amount int) api.Verification {
	return api.Verification{Number: number, Commitment: commitment, Day: day, Amount: amount}
}

func orderOf(number, verification, attempt, day int, back bool) api.Order {
	return api.Order{Number: number, Verification: verification, Attempt: attempt, Day: day, Back: back}
}

// example is a valid book with some of everything. Of its reservations 10, 0 and 40 are left, of its commitments 5, 20, 0 and 0.
func example() api.Book {
	return api.Book{
		Reservations:  []api.Reservation{reservationOf(1, "1", 12, 4330, 100, 20), reservationOf(2, "2.1", 13, 4700, 30, 0), reservationOf(3, "1", 12, 4320, 50, 10)},
		Commitments:   []api.Commitment{commitmentOf(1, 1, 4330, 50, 5, 7, 4400), commitmentOf(2, 2, 4750, 30, 10, 8, 4800), commitmentOf(3, 1, 4679, 10, 0, 9, 0), commitmentOf(4, 1, 4340, 10, 10, 9, lastDay)},
		Verifications: []api.Verification{verificationOf(1, 1, 4330, 25), verificationOf(2, 1, 5039, 15), verificationOf(3, 3, 4700, 10)},
		Orders:        []api.Order{orderOf(1, 1, 1, 4335, true), orderOf(2, 3, 1, 4700, false), orderOf(3, 1, 2, 4335, true), orderOf(4, 1, 3, 5039, false)},
	}
}

// cloneOf returns a book in memory of its own.
func cloneOf(b api.Book) api.Book {
	return api.Book{Reservations: slices.Clone(b.Reservations), Commitments: slices.Clone(b.Commitments), Verifications: slices.Clone(b.Verifications), Orders: slices.Clone(b.Orders)}
}

func same(a, b api.Book) bool {
	return slices.Equal(a.Reservations, b.Reservations) && slices.Equal(a.Commitments, b.Commitments) && slices.Equal(a.Verifications, b.Verifications) && slices.Equal(a.Orders, b.Orders)
}

func empty(b api.Book) bool { return same(b, api.Book{}) }

// is fails unless a result is a book without an error.
func is(t *testing.T, name string, got api.Book, e api.Errno, want api.Book) {
	t.Helper()
	if e != api.OK || !same(got, want) {
		t.Errorf("%s: %v, error %d, not %v", name, got, e, want)
	}
}

// refused fails unless a result is an error alone.
func refused(t *testing.T, name string, got api.Book, e, want api.Errno) {
	t.Helper()
	if e != want || !empty(got) {
		t.Errorf("%s: %v, error %d, not %d", name, got, e, want)
	}
}

// validOf is a reference: whether a book is valid, read off the chapter.
func validOf(b api.Book) bool {
	good := len(b.Reservations) <= mostBook && len(b.Commitments) <= mostBook && len(b.Verifications) <= mostBook && len(b.Orders) <= mostBook
	from := func(n, least, most int) { good = good && n >= least && n <= most }
	for i, r := range b.Reservations {
		good = good && r.Number == i+1 && classification.Parts(r.Code) != nil && calendar.Year(r.Day) == r.Year
		from(r.Year, 0, 99)
		from(r.Day, 0, lastDay)
		from(r.Amount, 1, mostAmount)
		from(r.Released, 0, r.Amount)
		from(leftOf(b, r), 0, mostAmount)
	}
	for i, c := range b.Commitments {
		if c.Number != i+1 || c.Reservation < 1 || c.Reservation > len(b.Reservations) {
			return false
		}
		r := b.Reservations[c.Reservation-1]
		from(c.Day, r.Day, min(r.Year*360+359, lastDay))
		from(c.Amount, 1, mostAmount)
		from(c.Released, 0, c.Amount)
		from(c.Payee, 1, mostNumber)
		from(c.Due, 0, lastDay)
		from(leftOfOf(b, c), 0, mostAmount)
	}
	for i, v := range b.Verifications {
		if v.Number != i+1 || v.Commitment < 1 || v.Commitment > len(b.Commitments) {
			return false
		}
		c := b.Commitments[v.Commitment-1]
		from(v.Day, c.Day, min(endOf(b, c), lastDay))
		from(v.Amount, 1, mostAmount)
	}
	for i, o := range b.Orders {
		if o.Number != i+1 || o.Verification < 1 || o.Verification > len(b.Verifications) {
			return false
		}
		v := b.Verifications[o.Verification-1]
		from(o.Day, v.Day, min(endOf(b, b.Commitments[v.Commitment-1]), lastDay))
		attempt := 1
		for _, p := range b.Orders[:i] {
			if p.Verification == o.Verification {
				good = good && p.Back && p.Day <= o.Day
				attempt++
			}
		}
		good = good && o.Attempt == attempt
	}
	return good
}

// leftOf and leftOfOf are references: what is left of a reservation and of a commitment.
func leftOf(b api.Book, r api.Reservation) int {
	left := r.Amount - r.Released
	for _, c := range b.Commitments {
		if c.Reservation == r.Number {
			left -= c.Amount
		}
	}
	return left
}

func leftOfOf(b api.Book, c api.Commitment) int {
	left := c.Amount - c.Released
	for _, v := range b.Verifications {
		if v.Commitment == c.Number {
			left -= v.Amount
		}
	}
	return left
}

// endOf returns the last day of the year behind that of a commitment's reservation.
func endOf(b api.Book, c api.Commitment) int {
	return b.Reservations[c.Reservation-1].Year*360 + 719
}

// paid reports whether a verification has an order that is not Back, and how many orders it has.
func paid(b api.Book, verification int) (bool, int) {
	open, n := false, 0
	for _, o := range b.Orders {
		if o.Verification == verification {
			open = open || !o.Back
			n++
		}
	}
	return open, n
}

// randomOp returns a book after something that is often possible, and what it did.
func randomOp(r *rand.Rand, b api.Book) (api.Book, api.Errno, string) {
	day, amount := 4320+r.Intn(800), 1+r.Intn(60)
	// Most of what is done follows on an entry that is there, a little later.
	of := func(n int) int { return 1 + r.Intn(n+1) }
	later := func(from int) int {
		if r.Intn(5) == 0 {
			return day
		}
		return from + r.Intn(20)
	}
	switch r.Intn(8) {
	case 0:
		x, e := Reserve(b, []string{"1", "2.1"}[r.Intn(2)], day/360, day, 2*amount)
		return x, e, "reserve"
	case 1:
		n := of(len(b.Reservations))
		if n <= len(b.Reservations) {
			day = later(b.Reservations[n-1].Day)
		}
		x, e := Commit(b, n, day, amount, 1+r.Intn(5), day+30)
		return x, e, "commit"
	case 2, 3:
		n := of(len(b.Commitments))
		if n <= len(b.Commitments) {
			day = later(b.Commitments[n-1].Day)
		}
		x, e := Verify(b, n, day, amount/4+1)
		return x, e, "verify"
	case 4:
		n := of(len(b.Verifications))
		if n <= len(b.Verifications) {
			day = later(b.Verifications[n-1].Day)
		}
		x, e := Order(b, n, day)
		return x, e, "order"
	case 5:
		x, e := Release(b, of(len(b.Reservations)), amount/4+1)
		return x, e, "release"
	case 6:
		x, e := Drop(b, of(len(b.Commitments)), amount/8+1)
		return x, e, "drop"
	}
	x, e := Back(b, of(len(b.Verifications)))
	return x, e, "back"
}

// randomBook returns a valid book after so many attempts.
func randomBook(r *rand.Rand, steps int) api.Book {
	var b api.Book
	for range steps {
		if x, e, _ := randomOp(r, b); e == api.OK {
			b = x
		}
	}
	return b
}

// spoil changes a number of a book by a little, or sets it to something special.
func spoil(r *rand.Rand, b api.Book) {
	var numbers []*int
	for i := range b.Reservations {
		x := &b.Reservations[i]
		numbers = append(numbers, &x.Number, &x.Year, &x.Day, &x.Amount, &x.Released)
	}
	for i := range b.Commitments {
		x := &b.Commitments[i]
		numbers = append(numbers, &x.Number, &x.Reservation, &x.Day, &x.Amount, &x.Released, &x.Payee, &x.Due)
	}
	for i := range b.Verifications {
		x := &b.Verifications[i]
		numbers = append(numbers, &x.Number, &x.Commitment, &x.Day, &x.Amount)
	}
	for i := range b.Orders {
		x := &b.Orders[i]
		numbers = append(numbers, &x.Number, &x.Verification, &x.Attempt, &x.Day)
		if r.Intn(20) == 0 {
			x.Back = !x.Back
			return
		}
	}
	if len(numbers) == 0 {
		return
	}
	n := numbers[r.Intn(len(numbers))]
	switch r.Intn(3) {
	case 0:
		*n += []int{-360, -30, -5, -1, 1, 2, 5, 30, 360}[r.Intn(9)]
	case 1:
		*n = []int{-1, 0, 1, mostAmount, mostAmount + 1, lastDay, lastDay + 1, -1 << 63, 1<<63 - 1}[r.Intn(9)]
	case 2:
		*n = *numbers[r.Intn(len(numbers))]
	}
}

// text returns a book for the texts of failures.
func text(b api.Book) string { return fmt.Sprintf("%+v", b) }
