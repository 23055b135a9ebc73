package commitment

import (
	"math"
	"math/rand"
	"slices"
	"testing"

	"treasury/api"
)

// P14.1

func TestValid(t *testing.T) {
	for _, c := range []struct {
		name   string
		change func(b *api.Book)
		want   bool
	}{
		{"as it is", func(b *api.Book) {}, true},
		{"nothing", func(b *api.Book) { *b = api.Book{} }, true},
		{"a reservation's number", func(b *api.Book) { b.Reservations[2].Number = 4 }, false},
		{"no code", func(b *api.Book) { b.Reservations[1].Code = "" }, false},
		{"what is no code", func(b *api.Book) { b.Reservations[1].Code = "2.01" }, false},
		{"another code", func(b *api.Book) { b.Reservations[1].Code = "9" }, true},
		{"another year", func(b *api.Book) { b.Reservations[0].Year = 13 }, false},
		{"a day of the year before", func(b *api.Book) { b.Reservations[2].Day = 4319 }, false},
		{"a day of the year behind", func(b *api.Book) { b.Reservations[2].Day = 4680 }, false},
		{"the last day of the year", func(b *api.Book) { b.Reservations[2].Day = 4679 }, true},
		{"no day", func(b *api.Book) { b.Reservations[2].Day, b.Reservations[2].Year = -1, -1 }, false},
		{"the first day", func(b *api.Book) { b.Reservations[2].Day, b.Reservations[2].Year = 0, 0 }, true},
		{"the last day", func(b *api.Book) { b.Reservations[2].Day, b.Reservations[2].Year = lastDay, 99 }, true},
		{"behind the last day", func(b *api.Book) { b.Reservations[2].Day, b.Reservations[2].Year = lastDay+1, 99 }, false},
		{"the year 100", func(b *api.Book) { b.Reservations[2].Day, b.Reservations[2].Year = 36000, 100 }, false},
		{"an amount of 0", func(b *api.Book) { b.Reservations[2].Amount, b.Reservations[2].Released = 0, 0 }, false},
		{"the largest amount", func(b *api.Book) { b.Reservations[2].Amount = mostAmount }, true},
		{"too large an amount", func(b *api.Book) { b.Reservations[2].Amount = mostAmount + 1 }, false},
		{"released below 0", func(b *api.Book) { b.Reservations[2].Released = -1 }, false},
		{"all released", func(b *api.Book) { b.Reservations[2].Released = 50 }, true},
		{"more released", func(b *api.Book) { b.Reservations[2].Released = 51 }, false},
		{"nothing left of a reservation", func(b *api.Book) { b.Reservations[0].Released = 30 }, true},
		{"less than nothing left of it", func(b *api.Book) { b.Reservations[0].Released = 31 }, false},
		{"less than nothing left of it, by a commitment", func(b *api.Book) { b.Commitments[2].Amount = 21 }, false},
		{"released of a commitment leaves it with that", func(b *api.Book) { b.Commitments[3].Released = 0 }, true},

		{"a commitment's number", func(b *api.Book) { b.Commitments[1].Number = 1 }, false},
		{"no reservation", func(b *api.Book) { b.Commitments[1].Reservation = 0 }, false},
		{"a reservation that is not there", func(b *api.Book) { b.Commitments[1].Reservation = 4 }, false},
		{"the least number as one", func(b *api.Book) { b.Commitments[1].Reservation = math.MinInt }, false},
		{"a commitment before its reservation", func(b *api.Book) { b.Commitments[0].Day = 4329 }, false},
		{"a commitment on the last day of its year", func(b *api.Book) { b.Commitments[1].Day = 5039 }, true},
		{"a commitment behind its year", func(b *api.Book) { b.Commitments[1].Day = 5040 }, false},
		{"a commitment of 0", func(b *api.Book) { b.Commitments[3].Amount, b.Commitments[3].Released = 0, 0 }, false},
		{"a commitment below 0", func(b *api.Book) { b.Commitments[3].Amount, b.Commitments[3].Released = -1, -1 }, false},
		{"too large a commitment", func(b *api.Book) { b.Commitments[3].Amount = mostAmount + 1 }, false},
		{"dropped below 0", func(b *api.Book) { b.Commitments[3].Released = -1 }, false},
		{"more dropped", func(b *api.Book) { b.Commitments[3].Released = 11 }, false},
		{"no payee", func(b *api.Book) { b.Commitments[0].Payee = 0 }, false},
		{"the last payee", func(b *api.Book) { b.Commitments[0].Payee = mostNumber }, true},
		{"behind the last payee", func(b *api.Book) { b.Commitments[0].Payee = mostNumber + 1 }, false},
		{"due on no day", func(b *api.Book) { b.Commitments[0].Due = -1 }, false},
		{"due before it was made", func(b *api.Book) { b.Commitments[0].Due = 0 }, true},
		{"due behind the last day", func(b *api.Book) { b.Commitments[0].Due = lastDay + 1 }, false},
		{"nothing left of a commitment", func(b *api.Book) { b.Commitments[0].Released = 10 }, true},
		{"less than nothing left of it", func(b *api.Book) { b.Commitments[0].Released = 11 }, false},
		{"less than nothing left of it, by a verification", func(b *api.Book) { b.Verifications[1].Amount = 21 }, false},

		{"a verification's number", func(b *api.Book) { b.Verifications[0].Number = 0 }, false},
		{"no commitment", func(b *api.Book) { b.Verifications[1].Commitment = 0 }, false},
		{"a commitment that is not there", func(b *api.Book) { b.Verifications[1].Commitment = 5 }, false},
		{"a verification before its commitment", func(b *api.Book) { b.Verifications[2].Day = 4678 }, false},
		{"a verification on the day of its commitment", func(b *api.Book) { b.Verifications[2].Day = 4679 }, true},
		{"a verification behind the year behind", func(b *api.Book) { b.Verifications[1].Day = 5040 }, false},
		{"a verification of 0", func(b *api.Book) { b.Verifications[1].Amount = 0 }, false},
		{"a verification below 0", func(b *api.Book) { b.Verifications[1].Amount = -1 }, false},
		{"too large a verification", func(b *api.Book) { b.Verifications[1].Amount = mostAmount + 1 }, false},

		{"an order's number", func(b *api.Book) { b.Orders[3].Number = 5 }, false},
		{"no verification", func(b *api.Book) { b.Orders[3].Verification = 0 }, false},
		{"a verification that is not there", func(b *api.Book) { b.Orders[3].Verification = 4 }, false},
		{"an order before its verification", func(b *api.Book) { b.Orders[0].Day = 4329 }, false},
		{"an order on the day of its verification", func(b *api.Book) { b.Orders[0].Day = 4330 }, true},
		{"an order behind the year behind", func(b *api.Book) { b.Orders[3].Day = 5040 }, false},
		{"an order before the one before", func(b *api.Book) { b.Orders[2].Day = 4334 }, false},
		{"a first attempt that is none", func(b *api.Book) { b.Orders[0].Attempt = 0 }, false},
		{"a first attempt that is the second one", func(b *api.Book) { b.Orders[1].Attempt = 2 }, false},
		{"a third attempt that is the second one", func(b *api.Book) { b.Orders[3].Attempt = 2 }, false},
		{"a first attempt that is not back", func(b *api.Book) { b.Orders[0].Back = false }, false},
		{"a second attempt that is not back", func(b *api.Book) { b.Orders[2].Back = false }, false},
		{"a last attempt that is back", func(b *api.Book) { b.Orders[3].Back = true }, true},
		{"the least numbers", func(b *api.Book) { b.Verifications[1].Day, b.Orders[3].Day = math.MinInt, math.MinInt }, false},
	} {
		b := example()
		c.change(&b)
		if got := Valid(b); got != c.want || got != validOf(b) {
			t.Errorf("%s: %v", c.name, got)
		}
		if !c.want {
			invalid(t, c.name, b)
		}
	}
}

// invalid fails unless all functions refuse a book that is not valid, whatever else is wrong.
func invalid(t *testing.T, name string, b api.Book) {
	t.Helper()
	for _, n := range []int{-1, 1} {
		got, e := Reserve(b, "1", 12*n, 4330*n, n)
		refused(t, name+", Reserve", got, e, api.ErrInvalid)
		got, e = Commit(b, n, 4330*n, n, n, n)
		refused(t, name+", Commit", got, e, api.ErrInvalid)
		got, e = Verify(b, n, 4330*n, n)
		refused(t, name+", Verify", got, e, api.ErrInvalid)
		got, e = Order(b, n, 4330*n)
		refused(t, name+", Order", got, e, api.ErrInvalid)
		got, e = Release(b, n, n)
		refused(t, name+", Release", got, e, api.ErrInvalid)
		got, e = Drop(b, n, n)
		refused(t, name+", Drop", got, e, api.ErrInvalid)
		got, e = Back(b, n)
		refused(t, name+", Back", got, e, api.ErrInvalid)
	}
	left, committed, verified, ordered := Sums(b, "1", 12)
	if Open(b, 1, 12) != nil || Unpaid(b, 1) != nil || left != 0 || committed != 0 || verified != 0 || ordered != 0 {
		t.Errorf("%s: open %v, unpaid %v, sums %d, %d, %d, %d", name, Open(b, 1, 12), Unpaid(b, 1), left, committed, verified, ordered)
	}
}

func TestValidAtTheLimits(t *testing.T) {
	full := fullBook(mostBook)
	if !Valid(full) {
		t.Error("the full book")
	}
	for name, change := range map[string]func(b *api.Book){
		"201 reservations":  func(b *api.Book) { b.Reservations = append(b.Reservations, reservationOf(201, "1", 12, 4330, 5, 0)) },
		"201 commitments":   func(b *api.Book) { b.Commitments = append(b.Commitments, commitmentOf(201, 1, 4330, 5, 0, 1, 0)) },
		"201 verifications": func(b *api.Book) { b.Verifications = append(b.Verifications, verificationOf(201, 1, 4330, 5)) },
		"201 orders":        func(b *api.Book) { b.Orders = append(b.Orders, orderOf(201, 1, 2, 4330, false)) },
	} {
		b := fullBook(mostBook)
		b.Orders[0].Back = true
		change(&b)
		if Valid(b) {
			t.Error(name)
		}
	}
}

// fullBook returns a book with so many entries of each kind.
func fullBook(n int) api.Book {
	var b api.Book
	for i := 1; i <= n; i++ {
		b.Reservations = append(b.Reservations, reservationOf(i, "1", 12, 4330, mostAmount, 0))
		b.Commitments = append(b.Commitments, commitmentOf(i, i, 4330, mostAmount-9, 0, 1, 0))
		b.Verifications = append(b.Verifications, verificationOf(i, i, 4330, mostAmount-99))
		b.Orders = append(b.Orders, orderOf(i, i, 1, 4330, false))
	}
	return b
}

func TestValidOfRandomBooks(t *testing.T) {
	r := rand.New(rand.NewSource(141))
	valid, not := 0, 0
	for range 300 {
		book := randomBook(r, 60)
		for range 40 {
			b := cloneOf(book)
			spoil(r, b)
			got := Valid(b)
			if got != validOf(b) {
				t.Fatalf("%v of %s", got, text(b))
			}
			if got {
				valid++
			} else {
				not++
			}
		}
	}
	if valid < 1000 || not < 1000 {
		t.Errorf("%d are valid, %d are not", valid, not)
	}
}

func TestLeftAndUsed(t *testing.T) {
	b := example()
	for number, want := range map[int]int{1: 10, 2: 0, 3: 40, 0: 0, 4: 0, -1: 0, math.MaxInt: 0} {
		if got := Left(b, number); got != want {
			t.Errorf("left of %d: %d, not %d", number, got, want)
		}
	}
	for _, c := range []struct {
		code       string
		year, want int
	}{{"1", 12, 105}, {"2.1", 13, 20}, {"1", 13, 0}, {"2.1", 12, 0}, {"2", 13, 0}, {"", 12, 0}, {"1", -1, 0}} {
		if got := Used(b, c.code, c.year); got != c.want {
			t.Errorf("used of %q in %d: %d, not %d", c.code, c.year, got, c.want)
		}
	}
}

func TestLeftAndUsedOfAnyBook(t *testing.T) {
	b := api.Book{
		Reservations: []api.Reservation{reservationOf(5, "x", -3, 0, 100, 300), reservationOf(5, "x", -3, 0, 7, 0), reservationOf(-2, "x", -3, 0, math.MinInt, 1), reservationOf(0, "", 0, 0, -4, 0)},
		Commitments:  []api.Commitment{commitmentOf(1, 5, 0, -20, 1, 0, 0), commitmentOf(1, 5, 0, 30, 2, 0, 0), commitmentOf(1, -2, 0, math.MaxInt, 4, 0, 0), commitmentOf(0, 0, 0, 3, 8, 0, 0)},
	}
	for number, want := range map[int]int{5: -210, -2: 0, 0: -7, 1: 0} {
		if got := Left(b, number); got != want {
			t.Errorf("left of %d: %d, not %d", number, got, want)
		}
	}
	if got, want := Used(b, "x", -3), math.MaxInt-203; got != want {
		t.Errorf("used of x: %d, not %d", got, want)
	}
	if got := Used(b, "", 0); got != -12 {
		t.Errorf("used of no code: %d", got)
	}
}

// P14.2

func TestReserve(t *testing.T) {
	b, want := example(), example()
	for _, c := range []struct {
		code              string
		year, day, amount int
	}{{"1", 12, 4320, 1}, {"99.99.99.99", 12, 4679, mostAmount}, {"2.1", 0, 0, 5}, {"2.1", 99, lastDay, 5}} {
		want.Reservations = append(want.Reservations, reservationOf(len(b.Reservations)+1, c.code, c.year, c.day, c.amount, 0))
		var e api.Errno
		b, e = Reserve(b, c.code, c.year, c.day, c.amount)
		is(t, c.code, b, e, want)
	}
	full := fullBook(mostBook - 1)
	full, e := Reserve(full, "1", 12, 4330, 5)
	if e != api.OK || len(full.Reservations) != mostBook {
		t.Errorf("the last one of a book: error %d", e)
	}
	for _, c := range []struct {
		name              string
		b                 api.Book
		code              string
		year, day, amount int
		want              api.Errno
	}{
		{"no code", b, "", 12, 4330, 5, api.ErrCode},
		{"what is no code", b, "1.", 12, 4330, 5, api.ErrCode},
		{"a year below 0", b, "1", -1, 4330, 5, api.ErrRange},
		{"the year 100", b, "1", 100, 35990, 5, api.ErrRange},
		{"a day below 0", b, "1", 12, -1, 5, api.ErrRange},
		{"a day too large", b, "1", 99, lastDay + 1, 5, api.ErrRange},
		{"an amount of 0", b, "1", 12, 4330, 0, api.ErrRange},
		{"an amount too large", b, "1", 12, 4330, mostAmount + 1, api.ErrRange},
		{"the day before the year", b, "1", 12, 4319, 5, api.ErrYear},
		{"the day behind the year", b, "1", 12, 4680, 5, api.ErrYear},
		{"another year", b, "1", 13, 4330, 5, api.ErrYear},
		{"codes ahead of ranges", b, "x", -1, -1, -1, api.ErrCode},
		{"ranges ahead of years", b, "1", 13, 4330, 0, api.ErrRange},
		{"a full book", full, "1", 12, 4330, 5, api.ErrLimit},
		{"years ahead of limits", full, "1", 12, 4680, 5, api.ErrYear},
	} {
		got, e := Reserve(c.b, c.code, c.year, c.day, c.amount)
		refused(t, c.name, got, e, c.want)
	}
}

func TestCommit(t *testing.T) {
	b, want := example(), example()
	for _, c := range [][5]int{{1, 4330, 4, mostNumber, 0}, {1, 4679, 6, 1, lastDay}, {3, 4320, 40, 3, 4330}} {
		want.Commitments = append(want.Commitments, commitmentOf(len(b.Commitments)+1, c[0], c[1], c[2], 0, c[3], c[4]))
		var e api.Errno
		b, e = Commit(b, c[0], c[1], c[2], c[3], c[4])
		is(t, "a commitment", b, e, want)
	}
	b = example()
	full := fullBook(mostBook)
	for _, c := range []struct {
		name string
		b    api.Book
		with [5]int
		want api.Errno
	}{
		{"no reservation", b, [5]int{0, 4330, 5, 1, 1}, api.ErrUnknown},
		{"a reservation that is not there", b, [5]int{4, 4330, 5, 1, 1}, api.ErrUnknown},
		{"the least number as one", b, [5]int{math.MinInt, 4330, 5, 1, 1}, api.ErrUnknown},
		{"a day below 0", b, [5]int{1, -1, 5, 1, 1}, api.ErrRange},
		{"a day too large", b, [5]int{1, lastDay + 1, 5, 1, 1}, api.ErrRange},
		{"an amount of 0", b, [5]int{1, 4330, 0, 1, 1}, api.ErrRange},
		{"an amount too large", b, [5]int{1, 4330, mostAmount + 1, 1, 1}, api.ErrRange},
		{"no payee", b, [5]int{1, 4330, 5, 0, 1}, api.ErrRange},
		{"a payee too large", b, [5]int{1, 4330, 5, mostNumber + 1, 1}, api.ErrRange},
		{"due on no day", b, [5]int{1, 4330, 5, 1, -1}, api.ErrRange},
		{"due too late", b, [5]int{1, 4330, 5, 1, lastDay + 1}, api.ErrRange},
		{"the year before", b, [5]int{1, 4319, 5, 1, 1}, api.ErrYear},
		{"the year behind", b, [5]int{1, 4680, 5, 1, 1}, api.ErrYear},
		{"before the reservation", b, [5]int{1, 4329, 5, 1, 1}, api.ErrOrder},
		{"more than what is left", b, [5]int{1, 4330, 11, 1, 1}, api.ErrFunds},
		{"more than nothing", b, [5]int{2, 4700, 1, 1, 1}, api.ErrFunds},
		{"unknown ahead of ranges", b, [5]int{4, -1, 5, 1, 1}, api.ErrUnknown},
		{"ranges ahead of years", b, [5]int{1, 4319, 5, 1, -1}, api.ErrRange},
		{"years ahead of funds", b, [5]int{1, 4319, 500, 1, 1}, api.ErrYear},
		{"the order ahead of funds", b, [5]int{1, 4329, 500, 1, 1}, api.ErrOrder},
		{"a full book", full, [5]int{1, 4330, 9, 1, 1}, api.ErrLimit},
		{"funds ahead of limits", full, [5]int{1, 4330, 10, 1, 1}, api.ErrFunds},
	} {
		got, e := Commit(c.b, c.with[0], c.with[1], c.with[2], c.with[3], c.with[4])
		refused(t, c.name, got, e, c.want)
	}
}

func TestVerify(t *testing.T) {
	b, want := example(), example()
	for _, c := range [][3]int{{1, 4330, 2}, {1, 5039, 3}, {2, 4750, 20}} {
		want.Verifications = append(want.Verifications, verificationOf(len(b.Verifications)+1, c[0], c[1], c[2]))
		var e api.Errno
		b, e = Verify(b, c[0], c[1], c[2])
		is(t, "a verification", b, e, want)
	}
	b = example()
	full := fullBook(mostBook)
	for _, c := range []struct {
		name string
		b    api.Book
		with [3]int
		want api.Errno
	}{
		{"no commitment", b, [3]int{0, 4330, 1}, api.ErrUnknown},
		{"a commitment that is not there", b, [3]int{5, 4330, 1}, api.ErrUnknown},
		{"a day below 0", b, [3]int{1, -1, 1}, api.ErrRange},
		{"a day too large", b, [3]int{1, lastDay + 1, 1}, api.ErrRange},
		{"an amount of 0", b, [3]int{1, 4330, 0}, api.ErrRange},
		{"an amount too large", b, [3]int{1, 4330, mostAmount + 1}, api.ErrRange},
		{"the second year behind", b, [3]int{1, 5040, 1}, api.ErrYear},
		{"the year before", b, [3]int{1, 4319, 1}, api.ErrOrder},
		{"before the commitment", b, [3]int{2, 4749, 1}, api.ErrOrder},
		{"more than what is left", b, [3]int{1, 4330, 6}, api.ErrFunds},
		{"more than nothing", b, [3]int{3, 4679, 1}, api.ErrFunds},
		{"unknown ahead of ranges", b, [3]int{5, -1, 1}, api.ErrUnknown},
		{"ranges ahead of years", b, [3]int{1, 5040, 0}, api.ErrRange},
		{"years ahead of funds", b, [3]int{1, 5040, 6}, api.ErrYear},
		{"the order ahead of funds", b, [3]int{2, 4749, 500}, api.ErrOrder},
		{"a full book", full, [3]int{1, 4330, 90}, api.ErrLimit},
		{"funds ahead of limits", full, [3]int{1, 4330, 91}, api.ErrFunds},
	} {
		got, e := Verify(c.b, c.with[0], c.with[1], c.with[2])
		refused(t, c.name, got, e, c.want)
	}
}

func TestTheLastYear(t *testing.T) {
	b := api.Book{Reservations: []api.Reservation{reservationOf(1, "1", 99, 35900, 9, 0)}}
	b, e := Commit(b, 1, lastDay, 9, 1, lastDay)
	b, f := Verify(b, 1, lastDay, 9)
	b, g := Order(b, 1, lastDay)
	if e != api.OK || f != api.OK || g != api.OK || !Valid(b) || !validOf(b) {
		t.Errorf("errors %d, %d, %d, %s", e, f, g, text(b))
	}
	b.Commitments[0].Day = lastDay + 1
	if Valid(b) {
		t.Error("a commitment behind the last day")
	}
}

// P14.3

func TestOrderAndBack(t *testing.T) {
	b, want := example(), example()
	b, e := Order(b, 2, 5039)
	want.Orders = append(want.Orders, orderOf(5, 2, 1, 5039, false))
	is(t, "a first order", b, e, want)
	b, e = Back(b, 1)
	want.Orders[3].Back = true
	is(t, "the last of three orders is back", b, e, want)
	b, e = Order(b, 1, 5039)
	want.Orders = append(want.Orders, orderOf(6, 1, 4, 5039, false))
	is(t, "a fourth order", b, e, want)
	b, e = Back(b, 2)
	want.Orders[4].Back = true
	is(t, "the only order is back", b, e, want)
	b, e = Back(b, 1)
	want.Orders[5].Back = true
	is(t, "the fourth order is back", b, e, want)

	b = example()
	b.Orders[3] = orderOf(4, 1, 3, 4400, true)
	again, e := Order(b, 1, 4400)
	if e != api.OK || again.Orders[4] != orderOf(5, 1, 4, 4400, false) {
		t.Errorf("an order on the day of the last one: %v, error %d", again.Orders, e)
	}
	full := fullBook(mostBook)
	full.Orders[0].Back = true
	for _, c := range []struct {
		name      string
		b         api.Book
		of, day   int
		want      api.Errno
		backThere api.Errno
	}{
		{"no verification", b, 0, 4400, api.ErrUnknown, api.ErrUnknown},
		{"a verification that is not there", b, 4, 4400, api.ErrUnknown, api.ErrUnknown},
		{"the least number as one", b, math.MinInt, 4400, api.ErrUnknown, api.ErrUnknown},
		{"a day below 0", b, 1, -1, api.ErrRange, api.ErrState},
		{"a day too large", b, 1, lastDay + 1, api.ErrRange, api.ErrState},
		{"the second year behind", b, 1, 5040, api.ErrYear, api.ErrState},
		{"one that is not back", b, 3, 4800, api.ErrRepeated, api.OK},
		{"before the verification", b, 2, 5038, api.ErrOrder, api.ErrState},
		{"before the last order", b, 1, 4399, api.ErrOrder, api.ErrState},
		{"unknown ahead of ranges", b, 4, -1, api.ErrUnknown, api.ErrUnknown},
		{"years ahead of what is not back", b, 3, 5040, api.ErrYear, api.OK},
		{"what is not back ahead of the order", b, 3, 4000, api.ErrRepeated, api.OK},
		{"a full book", full, 1, 4330, api.ErrLimit, api.ErrState},
		{"the order ahead of limits", full, 1, 4329, api.ErrOrder, api.ErrState},
	} {
		got, e := Order(c.b, c.of, c.day)
		refused(t, c.name, got, e, c.want)
		got, e = Back(c.b, c.of)
		if c.backThere != api.OK {
			refused(t, c.name+", back", got, e, c.backThere)
		} else if e != api.OK {
			t.Errorf("%s: back has the error %d", c.name, e)
		}
	}
}

// P14.4

func TestReleaseAndDrop(t *testing.T) {
	b, want := example(), example()
	b, e := Release(b, 1, 4)
	want.Reservations[0].Released = 24
	is(t, "a part of a reservation", b, e, want)
	b, e = Release(b, 1, 6)
	want.Reservations[0].Released = 30
	is(t, "all that is left of it", b, e, want)
	b, e = Drop(b, 2, 1)
	want.Commitments[1].Released = 11
	is(t, "a part of a commitment", b, e, want)
	b, e = Drop(b, 1, 5)
	want.Commitments[0].Released = 10
	is(t, "all that is left of it", b, e, want)
	b = example()
	for _, c := range []struct {
		name          string
		of, amount    int
		release, drop api.Errno
	}{
		{"none", 0, 1, api.ErrUnknown, api.ErrUnknown},
		{"one that is not there", 5, 1, api.ErrUnknown, api.ErrUnknown},
		{"the largest number", math.MaxInt, 1, api.ErrUnknown, api.ErrUnknown},
		{"nothing", 1, 0, api.ErrRange, api.ErrRange},
		{"less than nothing", 1, -1, api.ErrRange, api.ErrRange},
		{"too much", 1, mostAmount + 1, api.ErrRange, api.ErrRange},
		{"the largest amount", 1, mostAmount, api.ErrFunds, api.ErrFunds},
		{"more than what is left", 1, 11, api.ErrFunds, api.ErrFunds},
		{"unknown ahead of ranges", 5, 0, api.ErrUnknown, api.ErrUnknown},
	} {
		got, e := Release(b, c.of, c.amount)
		refused(t, c.name+", Release", got, e, c.release)
		got, e = Drop(b, c.of, c.amount)
		refused(t, c.name+", Drop", got, e, c.drop)
	}
	got, e := Release(b, 4, 1)
	refused(t, "the number of a commitment", got, e, api.ErrUnknown)
	got, e = Release(b, 2, 1)
	refused(t, "more than nothing of a reservation", got, e, api.ErrFunds)
	got, e = Drop(b, 1, 6)
	refused(t, "more than what is left of a commitment", got, e, api.ErrFunds)
	got, e = Drop(b, 4, 1)
	refused(t, "more than nothing of a commitment", got, e, api.ErrFunds)
}

// P14.5

func TestOpenUnpaidAndSums(t *testing.T) {
	b := example()
	if got, want := Open(b, 3, 12), []api.Open{{Office: 3, Commitment: 1, Code: "1", Year: 12, Amount: 5}}; !slices.Equal(got, want) {
		t.Errorf("open in 12: %v", got)
	}
	if got, want := Open(b, -3, 13), []api.Open{{Office: -3, Commitment: 2, Code: "2.1", Year: 13, Amount: 20}}; !slices.Equal(got, want) {
		t.Errorf("open in 13: %v", got)
	}
	if got := Open(b, 3, 11); len(got) != 0 {
		t.Errorf("open in 11: %v", got)
	}
	owed := func(verification, attempt, payee, amount, due int) api.Owed {
		return api.Owed{Office: 3, Verification: verification, Attempt: attempt, Payee: payee, Amount: amount, Due: due}
	}
	if got, want := Unpaid(b, 3), []api.Owed{owed(2, 1, 7, 15, 4400)}; !slices.Equal(got, want) {
		t.Errorf("unpaid: %v", got)
	}
	b.Orders[3].Back, b.Orders[1].Back = true, true
	if got, want := Unpaid(b, 3), []api.Owed{owed(1, 4, 7, 25, 4400), owed(2, 1, 7, 15, 4400), owed(3, 2, 9, 10, 0)}; !slices.Equal(got, want) {
		t.Errorf("unpaid when all are back: %v", got)
	}
	b = example()
	for _, c := range []struct {
		code string
		year int
		want [4]int
	}{
		{"1", 12, [4]int{50, 55, 50, 35}}, {"2.1", 13, [4]int{0, 20, 0, 0}}, {"1", 13, [4]int{}}, {"2.1", 12, [4]int{}}, {"", 12, [4]int{}}, {"1", -1, [4]int{}},
	} {
		left, committed, verified, ordered := Sums(b, c.code, c.year)
		if got := [4]int{left, committed, verified, ordered}; got != c.want {
			t.Errorf("sums of %q in %d: %v, not %v", c.code, c.year, got, c.want)
		}
	}
	left, committed, verified, ordered := Sums(fullBook(mostBook), "1", 12)
	if got, want := [4]int{left, committed, verified, ordered}, [4]int{9 * 200, 200 * (mostAmount - 9), 200 * (mostAmount - 99), 200 * (mostAmount - 99)}; got != want {
		t.Errorf("sums of a full book: %v, not %v", got, want)
	}
}

// The consequences, and P1

func TestExample(t *testing.T) {
	b, _ := Reserve(api.Book{}, "1", 12, 4330, 100)
	b, _ = Commit(b, 1, 4331, 70, 5, 4400)
	b, _ = Verify(b, 1, 4332, 50)
	b, e := Order(b, 1, 4333)
	open := Open(b, 1, 12)
	if e != api.OK || Used(b, "1", 12) != 100 || Left(b, 1) != 30 || len(open) != 1 || open[0].Amount != 20 {
		t.Errorf("used %d, left %d, open %v, error %d", Used(b, "1", 12), Left(b, 1), open, e)
	}
	if b, e = Drop(b, 1, 20); e != api.OK || Used(b, "1", 12) != 80 || Left(b, 1) != 30 {
		t.Errorf("used %d, left %d after the drop, error %d", Used(b, "1", 12), Left(b, 1), e)
	}
}

func TestRandomChains(t *testing.T) {
	r := rand.New(rand.NewSource(142))
	done := map[string]int{}
	for range 150 {
		var b api.Book
		for range 120 {
			kept := cloneOf(b)
			x, e, what := randomOp(r, b)
			if !same(b, kept) {
				t.Fatalf("%s changed its argument: %s", what, text(b))
			}
			if e != api.OK {
				continue
			}
			done[what]++
			if !Valid(x) || !validOf(x) {
				t.Fatalf("not valid after %s: %s", what, text(x))
			}
			for _, code := range []string{"1", "2.1"} {
				for year := 12; year <= 14; year++ {
					checkSums(t, b, x, what, code, year)
				}
			}
			b = x
		}
		checkLists(t, b)
	}
	for _, what := range []string{"reserve", "commit", "verify", "order", "release", "drop", "back"} {
		if done[what] < 50 {
			t.Errorf("%s was done %d times", what, done[what])
		}
	}
}

// checkSums compares what is used and the sums with the chain itself, and with what was used before.
func checkSums(t *testing.T, before, b api.Book, what, code string, year int) {
	t.Helper()
	var want [4]int
	for _, r := range b.Reservations {
		if r.Code != code || r.Year != year {
			continue
		}
		want[0] += leftOf(b, r)
		for _, c := range b.Commitments {
			if c.Reservation != r.Number {
				continue
			}
			want[1] += c.Amount - c.Released
			for _, v := range b.Verifications {
				if v.Commitment == c.Number {
					want[2] += v.Amount
					if open, _ := paid(b, v.Number); open {
						want[3] += v.Amount
					}
				}
			}
		}
	}
	left, committed, verified, ordered := Sums(b, code, year)
	used, was := Used(b, code, year), Used(before, code, year)
	if got := [4]int{left, committed, verified, ordered}; got != want || used != left+committed {
		t.Fatalf("sums of %s in %d: %v, not %v, used %d: %s", code, year, got, want, used, text(b))
	}
	switch what {
	case "commit", "verify", "order", "back":
		if used != was {
			t.Fatalf("%s makes %d used out of %d: %s", what, used, was, text(b))
		}
	case "reserve":
		if used < was {
			t.Fatalf("%s makes %d used out of %d: %s", what, used, was, text(b))
		}
	default:
		if used > was {
			t.Fatalf("%s makes %d used out of %d: %s", what, used, was, text(b))
		}
	}
}

// checkLists compares what is open and unpaid with the entries of a book.
func checkLists(t *testing.T, b api.Book) {
	t.Helper()
	for year := 12; year <= 14; year++ {
		var want []api.Open
		for _, c := range b.Commitments {
			r := b.Reservations[c.Reservation-1]
			if left := leftOfOf(b, c); left > 0 && r.Year == year {
				want = append(want, api.Open{Office: 2, Commitment: c.Number, Code: r.Code, Year: year, Amount: left})
			}
		}
		if got := Open(b, 2, year); !slices.Equal(got, want) {
			t.Fatalf("open in %d: %v, not %v: %s", year, got, want, text(b))
		}
	}
	var want []api.Owed
	for _, v := range b.Verifications {
		c := b.Commitments[v.Commitment-1]
		if open, n := paid(b, v.Number); !open {
			want = append(want, api.Owed{Office: 2, Verification: v.Number, Attempt: n + 1, Payee: c.Payee, Amount: v.Amount, Due: c.Due})
		}
	}
	if got := Unpaid(b, 2); !slices.Equal(got, want) {
		t.Fatalf("unpaid: %v, not %v: %s", got, want, text(b))
	}
}

func TestResultsAreNewMemory(t *testing.T) {
	b := example()
	b.Orders[3].Back = true
	kept := cloneOf(b)
	change := func(x api.Book, e api.Errno) {
		t.Helper()
		if e != api.OK {
			t.Errorf("error %d", e)
		}
		x.Reservations[0].Amount, x.Commitments[0].Amount, x.Verifications[0].Amount, x.Orders[0].Day = -7, -7, -7, -7
		if !same(b, kept) {
			t.Error("the result shares its memory")
		}
	}
	// A list with room behind it must not be grown in place.
	b.Reservations, b.Commitments = append(b.Reservations, api.Reservation{})[:3], append(b.Commitments, api.Commitment{})[:4]
	b.Verifications, b.Orders = append(b.Verifications, api.Verification{})[:3], append(b.Orders, api.Order{})[:4]
	change(Reserve(b, "1", 12, 4330, 5))
	change(Commit(b, 1, 4330, 5, 1, 1))
	change(Verify(b, 1, 4330, 5))
	change(Order(b, 1, 5039))
	change(Release(b, 1, 5))
	change(Drop(b, 1, 5))
	change(Back(b, 3))
	if b.Reservations[:4][3] != (api.Reservation{}) || b.Commitments[:5][4] != (api.Commitment{}) || b.Verifications[:4][3] != (api.Verification{}) || b.Orders[:5][4] != (api.Order{}) {
		t.Error("a list was grown in place")
	}
}
