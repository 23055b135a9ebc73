package arrears

import (
	"fmt"
	"math"
	"math/big"
	"math/rand"
	"slices"
	"testing"

	"treasury/api"
	"treasury/office"
)

// The limits are written out here as the document has them, so that a wrong one shows.
const (
	mostAmount  = 1000000000000
	mostOffices = 6
	mostOwed    = 10000
	lastDay     = 36000
)

func owedOf(office, verification, payee, amount, due int) api.Owed {
	return api.Owed{Office: office, Verification: verification, Attempt: 1, Payee: payee, Amount: amount, Due: due}
}

// dueOf returns something that is owed, with an amount and a day on which it is due.
func dueOf(amount, due int) api.Owed { return owedOf(1, 1, 1, amount, due) }

// officeAfter returns an office after operations, which must be possible.
func officeAfter(t *testing.T, o api.Office, ops ...api.Op) api.Office {
	t.Helper()
	for i, op := range ops {
		next, e := office.Do(o, op)
		if e != api.OK {
			t.Fatalf("operation %d: error %d", i, e)
		}
		o = next
	}
	return o
}

// officeOf returns an office that has verified something for each of some days: on the day with the index i an amount of 10 i + 1 is due, for the payee i + 1.
func officeOf(t *testing.T, number int, due ...int) api.Office {
	t.Helper()
	o := officeAfter(t, api.Office{Number: number}, api.Op{Kind: api.OpHear, Code: "1", Year: 12, Granted: 100000}, api.Op{Kind: api.OpReserve, Code: "1", Year: 12, Day: 4330, Amount: 100000})
	for i, day := range due {
		o = officeAfter(t, o, api.Op{Kind: api.OpCommit, Of: 1, Day: 4330, Amount: 10*i + 1, Payee: i + 1, Due: day}, api.Op{Kind: api.OpVerify, Of: i + 1, Day: 4331, Amount: 10*i + 1})
	}
	return o
}

// P21.1

func TestOwed(t *testing.T) {
	a, b := officeOf(t, 3, 4400, 4390, 4400, 0), officeOf(t, 1, 4400, 35990, 4390)
	a = officeAfter(t, a, api.Op{Kind: api.OpOrder, Of: 1, Day: 4340}, api.Op{Kind: api.OpOrder, Of: 3, Day: 4340}, api.Op{Kind: api.OpReturned, Of: 3})
	second := owedOf(3, 3, 3, 21, 4400)
	second.Attempt = 2
	want := []api.Owed{owedOf(3, 4, 4, 31, 0), owedOf(1, 3, 3, 21, 4390), owedOf(3, 2, 2, 11, 4390), owedOf(1, 1, 1, 1, 4400), second, owedOf(1, 2, 2, 11, 35990)}
	for _, l := range [][]api.Office{{a, b}, {b, a}, {a, {Number: 2}, b}} {
		if got, e := Owed(l); e != api.OK || !slices.Equal(got, want) {
			t.Errorf("%v, error %d, not %v", got, e, want)
		}
	}
	for _, l := range [][]api.Office{nil, {{Number: 1}, {Number: 2}}, {officeOf(t, 4)}} {
		if got, e := Owed(l); e != api.OK || len(got) != 0 {
			t.Errorf("%v, error %d", got, e)
		}
	}
	again := officeOf(t, 2, 4400, 4400, 4400)
	if got, e := Owed([]api.Office{again}); e != api.OK || !slices.Equal(got, []api.Owed{owedOf(2, 1, 1, 1, 4400), owedOf(2, 2, 2, 11, 4400), owedOf(2, 3, 3, 21, 4400)}) {
		t.Errorf("by verification: %v, error %d", got, e)
	}
}

// badOffices are lists with an error of Owed.
func badOffices(t *testing.T) []struct {
	name string
	l    []api.Office
	want api.Errno
} {
	good, bad := officeOf(t, 1, 4400), officeOf(t, 2, 4400)
	bad.Rights[0].Granted = 0
	many := make([]api.Office, mostOffices+1)
	return []struct {
		name string
		l    []api.Office
		want api.Errno
	}{
		{"7 offices", many, api.ErrLimit},
		{"no number", []api.Office{good, {}}, api.ErrInvalid},
		{"more used than the right lets it", []api.Office{good, bad}, api.ErrInvalid},
		{"the same office twice", []api.Office{good, good}, api.ErrDuplicate},
		{"the same number twice", []api.Office{{Number: 3}, good, {Number: 3}}, api.ErrDuplicate},
		{"twice ahead of what is not valid", []api.Office{good, {Number: 1}, bad}, api.ErrDuplicate},
		{"not valid ahead of twice", []api.Office{good, bad, good}, api.ErrInvalid},
		{"not valid, and twice", []api.Office{good, {Number: 1, Rights: bad.Rights, Book: bad.Book}}, api.ErrInvalid},
	}
}

func TestErrorsOfOffices(t *testing.T) {
	for _, c := range badOffices(t) {
		if got, e := Owed(c.l); got != nil || e != c.want {
			t.Errorf("%s: owed %v, error %d, not %d", c.name, got, e, c.want)
		}
		for _, day := range []int{4400, -1} {
			if got, e := List(c.l, day); got != nil || e != c.want {
				t.Errorf("%s: in arrears %v, error %d, not %d", c.name, got, e, c.want)
			}
			if got, e := Coming(c.l, day, -1); got != 0 || e != c.want {
				t.Errorf("%s: coming %v, error %d, not %d", c.name, got, e, c.want)
			}
		}
	}
	var six []api.Office
	for number := 1; number <= mostOffices; number++ {
		six = append(six, officeOf(t, number, 4400))
	}
	if got, e := Owed(six); e != api.OK || len(got) != mostOffices {
		t.Errorf("6 offices: %v, error %d", got, e)
	}
}

func TestLate(t *testing.T) {
	// The day 5 and the day 6 are no business days, 7 is one; 35999 and 36000 are none either.
	for _, c := range []struct{ due, day, want int }{
		{5, 10, 3}, {5, 7, 0}, {5, 8, 1}, {5, 5, 0}, {5, 0, 0}, {6, 8, 1}, {7, 8, 1}, {4, 5, 1}, {4, 4, 0}, {0, 36000, 36000}, {0, 0, 0}, {0, 1, 1},
		{35998, 36000, 2}, {35990, 36000, 10}, {35999, 36000, 0}, {36000, 36000, 0}, {36001, 36000, 0}, {-1, 36000, 0}, {math.MinInt, 36000, 0}, {math.MaxInt, 36000, 0},
		{5, 36001, 0}, {5, -1, 0}, {5, math.MaxInt, 0}, {5, math.MinInt, 0},
	} {
		if got := Late(dueOf(1, c.due), c.day); got != c.want {
			t.Errorf("due on %d, day %d: late by %d, not %d", c.due, c.day, got, c.want)
		}
	}
	for due := 0; due <= 35990; due += 11 {
		first := due
		for first%7 >= 5 {
			first++
		}
		for _, day := range []int{first - 1, first, first + 1, first + 40} {
			if day > lastDay || day < 0 {
				continue
			}
			if got := Late(dueOf(1, due), day); got != max(0, day-first) {
				t.Fatalf("due on %d, day %d: late by %d", due, day, got)
			}
		}
	}
}

// P21.2

func TestList(t *testing.T) {
	// 4396, 4403 and 4410 are multiples of 7, so that 4401, 4402, 4408 and 4409 are no business days.
	l := []api.Office{officeOf(t, 2, 4401, 4400, 4403), officeOf(t, 1, 4402, 0)}
	all, _ := Owed(l)
	for _, c := range []struct {
		day  int
		want []int // the places of what is in arrears
	}{
		{0, nil}, {1, []int{0}}, {4400, []int{0}}, {4401, []int{0, 1}}, {4403, []int{0, 1}}, {4404, []int{0, 1, 2, 3, 4}}, {36000, []int{0, 1, 2, 3, 4}},
	} {
		var want []api.Owed
		for _, i := range c.want {
			want = append(want, all[i])
		}
		if got, e := List(l, c.day); e != api.OK || !slices.Equal(got, want) {
			t.Errorf("day %d: %v, error %d, not %v", c.day, got, e, want)
		}
	}
	for _, day := range []int{-1, 36001, math.MinInt, math.MaxInt} {
		if got, e := List(l, day); got != nil || e != api.ErrRange {
			t.Errorf("day %d: %v, error %d", day, got, e)
		}
	}
}

func TestComing(t *testing.T) {
	l := []api.Office{officeOf(t, 2, 4401, 4400, 4403), officeOf(t, 1, 4402, 0)}
	for _, c := range []struct{ from, to, want int }{
		{0, 36000, 1 + 11 + 21 + 1 + 11}, {0, 0, 0}, {0, 1, 11}, {1, 4400, 0}, {1, 4401, 11}, {4400, 4401, 11}, {4400, 4403, 11}, {4400, 4404, 34}, {4401, 4403, 0}, {4403, 4403, 0}, {4403, 4404, 23}, {4404, 36000, 0}, {36000, 36000, 0},
	} {
		if got, e := Coming(l, c.from, c.to); got != c.want || e != api.OK {
			t.Errorf("from %d to %d: %d, error %d, not %d", c.from, c.to, got, e, c.want)
		}
	}
	for _, c := range []struct {
		from, to int
		want     api.Errno
	}{
		{-1, 4400, api.ErrRange}, {4400, 36001, api.ErrRange}, {36001, 4400, api.ErrRange}, {4400, -1, api.ErrRange}, {math.MinInt, math.MaxInt, api.ErrRange}, {4401, 4400, api.ErrOrder}, {36000, 0, api.ErrOrder},
	} {
		if got, e := Coming(l, c.from, c.to); got != 0 || e != c.want {
			t.Errorf("from %d to %d: %d, error %d, not %d", c.from, c.to, got, e, c.want)
		}
	}
}

// P21.3

func TestAges(t *testing.T) {
	// The days 4429 and 4430 are no business days, so that on the day 4431 these are late by 0, 0, 0, 31, 32 and 4431 days.
	x := []api.Owed{dueOf(1, 35990), dueOf(2, 4430), dueOf(4, 4429), dueOf(8, 4400), dueOf(16, 4399), dueOf(32, 0)}
	day := 4431
	for i, want := range []int{0, 0, 0, 31, 32, 4431} {
		if got := Late(x[i], day); got != want {
			t.Fatalf("%d is late by %d", i, got)
		}
	}
	for _, c := range []struct {
		limits, want []int
	}{
		{nil, []int{63}}, {[]int{0}, []int{7, 56}}, {[]int{30}, []int{7, 56}}, {[]int{31}, []int{15, 48}}, {[]int{32}, []int{31, 32}}, {[]int{0, 31, 32}, []int{7, 8, 16, 32}},
		{[]int{0, 1, 31, 4430}, []int{7, 0, 8, 16, 32}}, {[]int{4430}, []int{31, 32}}, {[]int{4431}, []int{63, 0}}, {[]int{31, math.MaxInt}, []int{15, 48, 0}}, {[]int{5, 10, 15}, []int{7, 0, 0, 56}},
	} {
		kept := slices.Clone(c.limits)
		if got, e := Ages(x, day, c.limits); e != api.OK || !slices.Equal(got, c.want) || !slices.Equal(c.limits, kept) {
			t.Errorf("limits %v: %v, error %d, not %v", c.limits, got, e, c.want)
		}
	}
	if got, e := Ages(nil, 0, []int{7}); e != api.OK || !slices.Equal(got, []int{0, 0}) {
		t.Errorf("of nothing: %v, error %d", got, e)
	}
	if got, e := Ages([]api.Owed{dueOf(5, -9), dueOf(6, math.MaxInt)}, day, []int{0}); e != api.OK || !slices.Equal(got, []int{11, 0}) {
		t.Errorf("due on no day: %v, error %d", got, e)
	}
}

func TestErrorsOfAgesAndPayee(t *testing.T) {
	good := []api.Owed{dueOf(1, 4400), dueOf(mostAmount, 4400)}
	with := func(amount int) []api.Owed { return append(slices.Clone(good), dueOf(amount, 4400)) }
	many := slices.Repeat(good, mostOwed/2)
	for _, c := range []struct {
		name   string
		x      []api.Owed
		day    int
		limits []int
		want   api.Errno
		payee  api.Errno
	}{
		{"as it is", good, 4400, []int{0, 1}, api.OK, api.OK},
		{"the last day", good, 36000, []int{0, 1}, api.OK, api.OK},
		{"the first day", good, 0, []int{0, 1}, api.OK, api.OK},
		{"limits below 0", good, 4400, []int{-1, 1}, api.ErrOrder, api.OK},
		{"equal limits", good, 4400, []int{1, 1}, api.ErrOrder, api.OK},
		{"limits that descend", good, 4400, []int{0, 7, 5}, api.ErrOrder, api.OK},
		{"an amount of 0", with(0), 4400, nil, api.ErrRange, api.ErrRange},
		{"an amount below 0", with(-1), 4400, nil, api.ErrRange, api.ErrRange},
		{"too large an amount", with(mostAmount + 1), 4400, nil, api.ErrRange, api.ErrRange},
		{"a day below 0", good, -1, nil, api.ErrRange, api.OK},
		{"a day too large", good, 36001, nil, api.ErrRange, api.OK},
		{"10,000 elements", many, 4400, []int{0, 1}, api.OK, api.OK},
		{"10,001 elements", append(many, good[0]), 4400, nil, api.ErrLimit, api.ErrLimit},
		{"the order ahead of ranges", with(0), -1, []int{-1}, api.ErrOrder, api.ErrRange},
		{"ranges ahead of limits", append(many, dueOf(0, 4400)), 4400, nil, api.ErrRange, api.ErrRange},
		{"days ahead of limits", append(many, good[0]), -1, nil, api.ErrRange, api.ErrLimit},
	} {
		kept := slices.Clone(c.x)
		got, e := Ages(c.x, c.day, c.limits)
		if e != c.want || (got == nil) != (e != api.OK) {
			t.Errorf("%s: %v, error %d, not %d", c.name, got, e, c.want)
		}
		sum, e := Payee(c.x, 1)
		if e != c.payee || (sum == 0) != (e != api.OK) {
			t.Errorf("%s: %d for a payee, error %d, not %d", c.name, sum, e, c.payee)
		}
		if !slices.Equal(c.x, kept) {
			t.Errorf("%s: the list was changed", c.name)
		}
	}
	if got, e := Ages(slices.Repeat([]api.Owed{dueOf(mostAmount, 0)}, mostOwed), 36000, []int{36000}); e != api.OK || !slices.Equal(got, []int{mostOwed * mostAmount, 0}) {
		t.Errorf("the most of all: %v, error %d", got, e)
	}
}

func TestPayee(t *testing.T) {
	x := []api.Owed{owedOf(1, 1, 7, 1, 0), owedOf(1, 2, 8, 2, 0), owedOf(2, 1, 7, 4, 0), owedOf(3, 1, -5, 8, 0), owedOf(3, 1, 7, 16, -9)}
	for payee, want := range map[int]int{7: 21, 8: 2, -5: 8, 0: 0, 9: 0, math.MaxInt: 0} {
		if got, e := Payee(x, payee); got != want || e != api.OK {
			t.Errorf("payee %d: %d, error %d, not %d", payee, got, e, want)
		}
	}
	if got, e := Payee(nil, 7); got != 0 || e != api.OK {
		t.Errorf("of nothing: %d, error %d", got, e)
	}
}

// P21.4

// interestOf is a reference, in numbers of any size.
func interestOf(amount, rate, late int) int {
	n := new(big.Int).Mul(big.NewInt(int64(amount)), big.NewInt(int64(rate)))
	n.Mul(n, big.NewInt(int64(late))).Div(n, big.NewInt(3600000))
	if n.Cmp(big.NewInt(mostAmount)) > 0 {
		return mostAmount
	}
	return int(n.Int64())
}

func TestInterest(t *testing.T) {
	for _, c := range []struct{ amount, due, day, rate, want int }{
		{1000, 0, 360, 1000, 100}, {1000, 0, 359, 1000, 99}, {1000, 0, 0, 1000, 0}, {1000, 360, 0, 1000, 0}, {1000, 5, 10, 10000, 8}, {3600000, 0, 1, 1, 1}, {3599999, 0, 1, 1, 0}, {3600000, 0, 1, 0, 0},
		{mostAmount, 0, 360, 10000, mostAmount}, {mostAmount, 0, 359, 10000, 997222222222}, {mostAmount, 0, 36000, 10000, mostAmount}, {mostAmount, 0, 36000, 99, 990000000000}, {mostAmount, 0, 36000, 100, mostAmount}, {mostAmount, 0, 36000, 101, mostAmount},
		{1, 0, 36000, 100, 1}, {1, 0, 36000, 99, 0}, {1, -5, 36000, 10000, 0}, {1, 36000, 36000, 10000, 0},
	} {
		if got, e := Interest(dueOf(c.amount, c.due), c.day, c.rate); got != c.want || e != api.OK {
			t.Errorf("%v: %d, error %d", c, got, e)
		}
	}
	for _, c := range [][3]int{{0, 100, 100}, {-1, 100, 100}, {mostAmount + 1, 100, 100}, {1, 100, -1}, {1, 100, 10001}, {1, -1, 100}, {1, 36001, 100}, {math.MinInt, math.MinInt, math.MinInt}, {math.MaxInt, math.MaxInt, math.MaxInt}} {
		if got, e := Interest(dueOf(c[0], 0), c[1], c[2]); got != 0 || e != api.ErrRange {
			t.Errorf("%v: %d, error %d", c, got, e)
		}
	}
	r := rand.New(rand.NewSource(211))
	for range 5000 {
		amount := 1 + r.Intn([]int{100, 1000000, mostAmount}[r.Intn(3)])
		due, day, rate := 7*r.Intn(5000), r.Intn(lastDay+1), r.Intn(10001)
		if got, e := Interest(dueOf(amount, due), day, rate); got != interestOf(amount, rate, max(0, day-due)) || e != api.OK {
			t.Fatalf("%d due on %d, day %d, rate %d: %d, error %d", amount, due, day, rate, got, e)
		}
	}
}

// The consequences, and P1

func TestAgesAreTogetherWhatIsOwed(t *testing.T) {
	r := rand.New(rand.NewSource(212))
	for range 300 {
		var x []api.Owed
		sum := 0
		for range r.Intn(40) {
			x = append(x, dueOf(1+r.Intn(1000), r.Intn(9000)))
			sum += x[len(x)-1].Amount
		}
		var limits []int
		for limit := r.Intn(3); r.Intn(6) > 0; limit += 1 + r.Intn(200) {
			limits = append(limits, limit)
		}
		day := r.Intn(9000)
		got, e := Ages(x, day, limits)
		want := make([]int, len(limits)+1)
		for _, o := range x {
			i := 0
			for i < len(limits) && Late(o, day) > limits[i] {
				i++
			}
			want[i] += o.Amount
		}
		together := 0
		for _, n := range got {
			together += n
		}
		if e != api.OK || !slices.Equal(got, want) || together != sum {
			t.Fatalf("%v, error %d, not %v, of %v by %v", got, e, want, x, limits)
		}
	}
}

func TestWhatIsInArrearsStays(t *testing.T) {
	r := rand.New(rand.NewSource(213))
	for range 30 {
		var due []int
		for range 10 {
			due = append(due, 4330+r.Intn(60))
		}
		l := []api.Office{officeOf(t, 1, due...)}
		var before []api.Owed
		for day := 4330; day < 4400; day++ {
			now, e := List(l, day)
			for _, x := range before {
				if e != api.OK || !slices.Contains(now, x) {
					t.Fatalf("day %d: %v, error %d, is no more in arrears", day, x, e)
				}
			}
			before = now
		}
		if len(before) != 10 {
			t.Fatalf("%v", before)
		}
		ordered := officeAfter(t, l[0], api.Op{Kind: api.OpOrder, Of: 3, Day: 4400})
		if now, _ := List([]api.Office{ordered}, 4400); len(now) != 9 {
			t.Fatalf("%v", now)
		}
	}
}

func TestInterestOfTwoSpans(t *testing.T) {
	r := rand.New(rand.NewSource(214))
	for range 3000 {
		amount, rate := 1+r.Intn(100000), r.Intn(10001)
		first := 7 * r.Intn(1000)
		between := first + 7*r.Intn(100)
		last := between + r.Intn(700)
		whole, _ := Interest(dueOf(amount, first), last, rate)
		a, _ := Interest(dueOf(amount, first), between, rate)
		b, _ := Interest(dueOf(amount, between), last, rate)
		if a+b > whole || a+b < whole-1 {
			t.Fatalf("%d and %d of %d", a, b, whole)
		}
	}
}

func TestArgumentsStayAsTheyAre(t *testing.T) {
	l := []api.Office{officeOf(t, 2, 4401, 4400, 4403), officeOf(t, 1, 4402, 0)}
	kept := fmt.Sprint(l)
	for _, get := range []func() ([]api.Owed, api.Errno){func() ([]api.Owed, api.Errno) { return Owed(l) }, func() ([]api.Owed, api.Errno) { return List(l, 4500) }} {
		got, _ := get()
		for i := range got {
			got[i].Amount = -7
		}
	}
	Coming(l, 0, 5000)
	if fmt.Sprint(l) != kept {
		t.Error("an argument was changed")
	}
}
