package taxes

import (
	"fmt"
	"math"
	"math/rand"
	"slices"
	"testing"

	"treasury/api"
)

// The limits are written out here as the document has them, so that a wrong one shows.
const (
	mostAmount = 1000000000000
	mostNumber = 1000000
	mostWeight = 1000000
	mostTaxes  = 20
	mostTimes  = 60
	mostFlows  = 400
	mostClaims = 60
	lastDay    = 36000
)

// tax is a tax of 19 on the days 0, 30, 60 and so on, moved to business days.
func tax(code string, first, every, times int) api.Tax {
	return api.Tax{Code: code, Payer: 7, Base: 100, Num: 19, Den: 100, First: first, Every: every, Times: times}
}

func flow(day, amount, ref int) api.Flow {
	return api.Flow{Day: day, Amount: amount, Kind: 3, Ref: ref}
}

// business moves a day to the next business day, and reports whether there is one.
func business(day int) (int, bool) {
	for day%7 == 5 || day%7 == 6 {
		day++
	}
	return day, day <= lastDay
}

// P28.1

func TestTax(t *testing.T) {
	good := api.Tax{Code: "4", Payer: 1, Base: 1, Num: 1, Den: 1, First: 0, Every: 1, Times: 1}
	large := api.Tax{Code: "99.99.99.99", Payer: mostNumber, Base: mostAmount, Num: mostWeight, Den: mostWeight, First: lastDay, Every: 60, Times: mostTimes}
	for _, x := range []api.Tax{good, large, tax("4.1", 0, 1, 3), {Code: "4", Payer: 1, Den: 1, Every: 1, Times: 1}} {
		if !Tax(x) || Check([]api.Tax{x}) != api.OK {
			t.Errorf("%v: error %d", x, Check([]api.Tax{x}))
		}
	}
	for i, change := range []func(x *api.Tax){
		func(x *api.Tax) { x.Code = "" }, func(x *api.Tax) { x.Code = "4.x" }, func(x *api.Tax) { x.Code = "100" },
		func(x *api.Tax) { x.Payer = 0 }, func(x *api.Tax) { x.Payer = mostNumber + 1 },
		func(x *api.Tax) { x.Base = -1 }, func(x *api.Tax) { x.Base = mostAmount + 1 },
		func(x *api.Tax) { x.Num = -1 }, func(x *api.Tax) { x.Num = 2 },
		func(x *api.Tax) { x.Den = 0 }, func(x *api.Tax) { x.Den = -5 }, func(x *api.Tax) { x.Den = mostWeight + 1 },
		func(x *api.Tax) { x.First = -1 }, func(x *api.Tax) { x.First = lastDay + 1 },
		func(x *api.Tax) { x.Every = 0 }, func(x *api.Tax) { x.Every = 61 },
		func(x *api.Tax) { x.Times = 0 }, func(x *api.Tax) { x.Times = mostTimes + 1 },
		func(x *api.Tax) { *x = api.Tax{} }, func(x *api.Tax) { x.Times = math.MaxInt },
	} {
		x := good
		change(&x)
		if Tax(x) || Amount(x) != 0 || len(Days(x)) > 0 {
			t.Errorf("%d: %v, %d, %v", i, Tax(x), Amount(x), Days(x))
		}
		l := []api.Tax{good, x}
		if e := Check(l); e != api.ErrTax {
			t.Errorf("%d, Check: error %d", i, e)
		}
		fails(t, fmt.Sprint(i), l, api.ErrTax)
	}
	if e := Check(slices.Repeat([]api.Tax{good}, mostTaxes)); e != api.OK {
		t.Errorf("20 taxes: error %d", e)
	}
	for _, x := range []api.Tax{good, {}} {
		l := slices.Repeat([]api.Tax{x}, mostTaxes+1)
		if e := Check(l); e != api.ErrLimit {
			t.Errorf("21 taxes: error %d", e)
		}
		fails(t, "21 taxes", l, api.ErrLimit)
	}
	if e := Check(nil); e != api.OK {
		t.Errorf("no taxes: error %d", e)
	}
}

// fails fails unless all functions have an error.
func fails(t *testing.T, name string, l []api.Tax, want api.Errno) {
	t.Helper()
	if got, e := Expected(l, 0, lastDay); e != want || len(got) > 0 {
		t.Errorf("%s, Expected: %v, error %d, not %d", name, got, e, want)
	}
	for _, first := range []int{0, 1} {
		if got, e := Claims(l, 0, lastDay, first); e != want || len(got) > 0 {
			t.Errorf("%s, Claims: %v, error %d, not %d", name, got, e, want)
		}
	}
	for _, code := range []string{"4", ""} {
		if got, e := Year(l, code, 0); e != want || got != 0 {
			t.Errorf("%s, Year: %v, error %d, not %d", name, got, e, want)
		}
	}
}

func TestAmount(t *testing.T) {
	for _, c := range []struct{ base, num, den, want int }{{100, 19, 100, 19}, {5, 1, 2, 3}, {10, 0, 3, 0}, {10, 1, 3, 3}, {10, 2, 3, 7}, {mostAmount, 1, 1, mostAmount}, {0, 1, 1, 0}, {1, 1, 3, 0}, {mostAmount, 999999, mostWeight, 999999000000}} {
		x := tax("4", 0, 1, 1)
		x.Base, x.Num, x.Den = c.base, c.num, c.den
		if got := Amount(x); got != c.want {
			t.Errorf("%v: %d", c, got)
		}
	}
}

func TestDays(t *testing.T) {
	for _, c := range []struct {
		x    api.Tax
		want []int
	}{
		{tax("4", 0, 1, 3), []int{0, 30, 60}},
		{tax("4", 5, 1, 3), []int{7, 35, 65}},
		{tax("4", 6, 1, 1), []int{7}},
		{tax("4", 4, 12, 3), []int{4, 364, 724}},
		{tax("4", 0, 60, 2), []int{0, 1800}},
		{tax("4", lastDay-2, 1, 5), []int{lastDay - 2}},
		{tax("4", lastDay-1, 1, 5), nil},
		{tax("4", lastDay, 60, mostTimes), nil},
		{tax("4", lastDay-62, 1, 5), []int{lastDay - 62, lastDay - 32, lastDay - 2}},
	} {
		if got := Days(c.x); !slices.Equal(got, c.want) {
			t.Errorf("%v: %v, not %v", c.x, got, c.want)
		}
	}
}

// P28.2

func TestExpected(t *testing.T) {
	none := tax("5", 0, 1, 3)
	none.Num = 0
	l := []api.Tax{tax("4", 5, 1, 3), none, tax("4.1", 7, 1, 2), tax("9", 65, 2, 2)}
	l[2].Base = 200
	all := []api.Flow{flow(7, 19, 0), flow(7, 38, 2), flow(35, 19, 0), flow(37, 38, 2), flow(65, 19, 0), flow(65, 19, 3), flow(126, 19, 3)}
	for _, c := range []struct{ from, to, first, last int }{{0, lastDay, 0, 7}, {7, 126, 0, 7}, {8, 125, 2, 6}, {35, 65, 2, 6}, {36, 36, 3, 3}, {65, 65, 4, 6}, {100, 50, 0, 0}, {math.MinInt, math.MaxInt, 0, 7}, {math.MaxInt, math.MinInt, 0, 0}, {-5, 6, 0, 0}} {
		want := all[c.first:c.last]
		got, e := Expected(l, c.from, c.to)
		if e != api.OK || !slices.Equal(got, want) {
			t.Errorf("%d to %d: %v, error %d, not %v", c.from, c.to, got, e, want)
		}
		claims(t, l, c.from, c.to, 10, want)
	}
}

// claims fails unless the claims from a day to a day are those of some flows.
func claims(t *testing.T, l []api.Tax, from, to, first int, flows []api.Flow) {
	t.Helper()
	var want []api.Claim
	for i, x := range flows {
		want = append(want, api.Claim{ID: first + i, Payer: l[x.Ref].Payer, Amount: x.Amount, Open: x.Amount, Day: x.Day, Code: l[x.Ref].Code})
	}
	if got, e := Claims(l, from, to, first); e != api.OK || !slices.Equal(got, want) {
		t.Errorf("%d to %d: %v, error %d, not %v", from, to, got, e, want)
	}
}

func TestLimits(t *testing.T) {
	many := slices.Repeat([]api.Tax{tax("4", 0, 1, 20)}, 20)
	if got, e := Expected(many, 0, lastDay); e != api.OK || len(got) != mostFlows {
		t.Errorf("400: %d, error %d", len(got), e)
	}
	if got, e := Claims(many, 0, lastDay, 1); e != api.ErrLimit || len(got) > 0 {
		t.Errorf("400 claims: %d, error %d", len(got), e)
	}
	many[7].Times++
	if got, e := Expected(many, 0, lastDay); e != api.ErrLimit || len(got) > 0 {
		t.Errorf("401: %d, error %d", len(got), e)
	}
	if got, e := Claims(many, 0, lastDay, 1); e != api.ErrLimit || len(got) > 0 {
		t.Errorf("401 claims: %d, error %d", len(got), e)
	}
	if got, e := Expected(many, 0, 599); e != api.OK || len(got) != mostFlows {
		t.Errorf("without the last one: %d, error %d", len(got), e)
	}
	// Years are not limited.
	for i := range many {
		many[i].Times = mostTimes
		many[i].Every = 1
	}
	if got, e := Year(many, "4", 0); e != api.OK || got != 20*12*19 {
		t.Errorf("%d, error %d", got, e)
	}
	l := []api.Tax{tax("4", 0, 1, mostTimes)}
	for first, want := range map[int]api.Errno{0: api.ErrRange, -1: api.ErrRange, 1: api.OK, mostNumber - mostClaims: api.OK, mostNumber - mostClaims + 1: api.ErrRange, math.MaxInt: api.ErrRange} {
		if got, e := Claims(l, 0, lastDay, first); e != want || (len(got) == mostClaims) != (e == api.OK) {
			t.Errorf("first %d: %d, error %d, not %d", first, len(got), e, want)
		}
	}
	l = append(l, tax("4", 0, 1, 1))
	for _, first := range []int{0, 1} {
		if got, e := Claims(l, 0, lastDay, first); e != api.ErrLimit || len(got) > 0 {
			t.Errorf("61 claims: %d, error %d", len(got), e)
		}
	}
}

func TestYear(t *testing.T) {
	l := []api.Tax{tax("4", 355, 1, 3), tax("4.1", 0, 12, 4), tax("4.1.7", 361, 1, 1), tax("4.10", 0, 60, 60), tax("41", 0, 1, 1)}
	for i := range l {
		l[i].Base, l[i].Num, l[i].Den = 1<<i, 1, 1
	}
	for _, c := range []struct {
		code       string
		year, want int
	}{
		// 355 is moved to 357, 385 stays, 415 to 416; 360 stays, 720 to 721, 1080 stays.
		{"4", 0, 1 + 2 + 8}, {"4", 1, 2 + 2*1 + 4}, {"4.1", 0, 2}, {"4.1", 1, 2 + 4}, {"4.1.7", 1, 4}, {"4.1", 2, 2}, {"4.1", 3, 2}, {"4.1", 4, 0}, {"41", 0, 16}, {"4.10", 5, 8}, {"4.10", 99, 0}, {"4.10", 95, 8}, {"5", 0, 0}, {"4.1.7.1", 1, 0}, {"4", -1, 0}, {"4", 100, 0}, {"4", math.MaxInt, 0}, {"4", math.MinInt, 0},
	} {
		if got, e := Year(l, c.code, c.year); e != api.OK || got != c.want {
			t.Errorf("%s in %d: %d, error %d, not %d", c.code, c.year, got, e, c.want)
		}
	}
	for _, code := range []string{"", "4.", "x", "1.1.1.1.1", "0"} {
		if got, e := Year(l, code, 0); e != api.ErrCode || got != 0 {
			t.Errorf("%q: %d, error %d", code, got, e)
		}
	}
	// The days 359 and 360 are in two years, though one is moved over the end.
	edge := []api.Tax{tax("4", 719, 1, 1), tax("5", 1439, 1, 1)}
	for year, want := range map[int]int{1: 0, 2: 19} {
		if got, _ := Year(edge, "4", year); got != want {
			t.Errorf("year %d: %d", year, got)
		}
	}
	if got, _ := Year(edge, "5", 3); got != 19 {
		t.Errorf("the last day of a year: %d", got)
	}
}

// The consequences, and P1

func TestRandomTaxes(t *testing.T) {
	r := rand.New(rand.NewSource(281))
	codes := []string{"4", "4.1", "4.1.2", "4.2", "5"}
	for range 300 {
		var l []api.Tax
		for range r.Intn(6) {
			x := tax(codes[r.Intn(len(codes))], r.Intn(2000), 1+r.Intn(5), 1+r.Intn(10))
			x.Num = r.Intn(3)
			x.Base = r.Intn(1000)
			l = append(l, x)
		}
		from, mid := r.Intn(1000), r.Intn(2500)
		to := mid + r.Intn(1000)
		a, _ := Expected(l, from, mid)
		b, _ := Expected(l, max(mid+1, from), to)
		all, e := Expected(l, from, to)
		if e != api.OK || !slices.Equal(slices.Concat(a, b), all) && from <= mid {
			t.Fatalf("%v and %v, not %v", a, b, all)
		}
		if !slices.Equal(all, reference(l, from, to)) {
			t.Fatalf("%v, not %v", all, reference(l, from, to))
		}
		year := r.Intn(8)
		whole, _ := Year(l, "4", year)
		one, _ := Year(l, "4.1", year)
		two, _ := Year(l, "4.2", year)
		own := 0
		for _, x := range reference(l, 360*year, 360*year+359) {
			if l[x.Ref].Code == "4" {
				own += x.Amount
			}
		}
		if whole != one+two+own {
			t.Fatalf("%d, not %d, %d and %d", whole, one, two, own)
		}
	}
}

// reference returns the flows day by day.
func reference(l []api.Tax, from, to int) []api.Flow {
	var all []api.Flow
	for day := from; day <= to; day++ {
		for i, x := range l {
			amount := (2*x.Base*x.Num + x.Den) / (2 * x.Den)
			for k := range x.Times {
				if d, ok := business(x.First + k*30*x.Every); ok && d == day && amount > 0 {
					all = append(all, flow(day, amount, i))
				}
			}
		}
	}
	return all
}
