package index

import (
	"fmt"
	"math"
	"math/rand"
	"slices"
	"testing"

	"treasury/api"
	"treasury/coupon"
	"treasury/register"
)

// The limits are written out here as the document has them, so that a wrong one shows.
const (
	mostAmount = 1000000000000
	mostMonths = 700
	mostValue  = 1000000
	lastDay    = 36000
)

// bond is an indexed security with coupons of 2 1/2 per cent on the days 280 and 460. It is issued in the month 3.
func bond(id int) api.Security {
	return api.Security{ID: id, Unit: 1, Issued: 100, Maturity: 460, Rate: 5000, Every: 6, Indexed: true}
}

// plain is one that is not indexed.
func plain(id int) api.Security {
	s := bond(id)
	s.Indexed = false
	return s
}

// values is an index with a value for each month from 0 on: 100 in month 0, 101 in month 1, and so on.
func values(n int) api.Index {
	var x api.Index
	for i := range n {
		x.Values = append(x.Values, 100+i)
	}
	return x
}

// holds is a register with securities, of which holders were issued some amounts on the day 100.
func holds(t *testing.T, l []api.Security, held ...api.Holding) api.Register {
	t.Helper()
	var r api.Register
	e := api.OK
	for _, s := range l {
		if r, e = register.Add(r, s); e != api.OK {
			t.Fatalf("error %d", e)
		}
	}
	for _, h := range held {
		if r, e = register.Issue(r, 100, h.Security, h.Holder, h.Amount); e != api.OK {
			t.Fatalf("error %d", e)
		}
	}
	return r
}

func held(id, holder, amount int) api.Holding {
	return api.Holding{Security: id, Holder: holder, Amount: amount}
}

func due(day, id, holder, kind, amount int) api.Due {
	return api.Due{Day: day, Security: id, Holder: holder, Kind: kind, Amount: amount}
}

// P36.1

func TestCheck(t *testing.T) {
	long := api.Index{First: 1200, Values: slices.Repeat([]int{mostValue}, mostMonths)}
	for _, x := range []api.Index{{Values: []int{1}}, long, values(20)} {
		if e := Check(x); e != api.OK {
			t.Errorf("%d: error %d", x.First, e)
		}
	}
	r := holds(t, []api.Security{bond(1)}, held(1, 1, 5))
	for i, x := range []api.Index{{}, {First: -1, Values: []int{5}}, {First: 1201, Values: []int{5}}, {Values: []int{}}, {Values: append(slices.Clone(long.Values), 1)}, {Values: []int{5, 0}}, {Values: []int{-1}}, {Values: []int{5, mostValue + 1, 5}}, {First: math.MaxInt, Values: []int{5}}, {First: math.MinInt, Values: []int{5}}} {
		if e := Check(x); e != api.ErrIndex {
			t.Errorf("%d: error %d", i, e)
		}
		for _, month := range []int{x.First, 0} {
			if n, ok := Value(x, month); n != 0 || ok {
				t.Errorf("%d: %d, %v", i, n, ok)
			}
		}
		for _, s := range []api.Security{{}, plain(1)} {
			if num, den, e := Ratio(x, s, -1); num != 0 || den != 0 || e != api.ErrIndex {
				t.Errorf("%d: %d, %d, error %d", i, num, den, e)
			}
			if n, e := Scaled(x, s, -1, -1); n != 0 || e != api.ErrIndex {
				t.Errorf("%d: %d, error %d", i, n, e)
			}
			if n, e := Coupon(x, s, 5, 200); n != 0 || e != api.ErrIndex {
				t.Errorf("%d: %d, error %d", i, n, e)
			}
			if n, e := Final(x, s, 5); n != 0 || e != api.ErrIndex {
				t.Errorf("%d: %d, error %d", i, n, e)
			}
		}
		for _, reg := range []api.Register{r, {Securities: make([]api.Security, 21)}} {
			if l, e := Pending(x, reg, -1); len(l) > 0 || e != api.ErrIndex {
				t.Errorf("%d: %v, error %d", i, l, e)
			}
		}
	}
}

func TestValue(t *testing.T) {
	x := api.Index{First: 7, Values: []int{10, 20, 30}}
	for month, want := range map[int]int{7: 10, 8: 20, 9: 30, 6: 0, 10: 0, 0: 0, -1: 0, math.MinInt: 0, math.MaxInt: 0} {
		if n, ok := Value(x, month); n != want || ok != (want > 0) {
			t.Errorf("%d: %d, %v", month, n, ok)
		}
	}
}

func TestRatio(t *testing.T) {
	x := values(20)
	late := api.Index{First: 1, Values: x.Values}
	short := api.Index{Values: x.Values[:5]}
	early := bond(1)
	early.Issued, early.Maturity = 89, 449
	for _, c := range []struct {
		x        api.Index
		s        api.Security
		day      int
		num, den int
		e        api.Errno
	}{
		{x, bond(1), 100, 100, 100, api.OK}, {x, bond(1), 119, 100, 100, api.OK}, {x, bond(1), 120, 101, 100, api.OK}, {x, bond(1), 460, 112, 100, api.OK},
		{x, plain(1), 100, 1, 1, api.OK}, {x, plain(1), 460, 1, 1, api.OK}, {late, plain(1), 300, 1, 1, api.OK},
		{x, bond(1), 99, 0, 0, api.ErrOrder}, {x, bond(1), 461, 0, 0, api.ErrOrder}, {x, plain(1), 99, 0, 0, api.ErrOrder}, {x, plain(1), 461, 0, 0, api.ErrOrder}, {x, bond(1), math.MinInt, 0, 0, api.ErrOrder}, {x, bond(1), math.MaxInt, 0, 0, api.ErrOrder},
		{x, bond(0), 99, 0, 0, api.ErrSecurity}, {x, api.Security{}, 200, 0, 0, api.ErrSecurity},
		{late, bond(1), 300, 0, 0, api.ErrIndex}, {late, bond(1), 99, 0, 0, api.ErrOrder}, {short, bond(1), 239, 104, 100, api.OK}, {short, bond(1), 240, 0, 0, api.ErrIndex}, {x, early, 200, 0, 0, api.ErrIndex}, {x, early, 89, 0, 0, api.ErrIndex},
	} {
		if num, den, e := Ratio(c.x, c.s, c.day); num != c.num || den != c.den || e != c.e {
			t.Errorf("%v, day %d: %d, %d, error %d, not %d, %d, %d", c.s, c.day, num, den, e, c.num, c.den, c.e)
		}
	}
}

// P36.2

func TestAmounts(t *testing.T) {
	x := values(20)
	falling := api.Index{Values: []int{200, 199, 100, 100, 100, 100, 100, 100, 100, 100, 100, 100, 100}}
	great := api.Index{Values: []int{1, mostValue, 1, 1, 1, 1, 2, 1, 1, 1, 1, 1, 2}}
	for _, c := range []struct {
		x                     api.Index
		s                     api.Security
		amount, day           int
		scaled, coupon, final int
	}{
		{x, bond(1), 1000, 400, 1110 - 10, 28, 1120}, // 27.5 is rounded up
		{x, bond(1), 100000, 400, 110000, 2750, 112000},
		{x, bond(1), 50, 120, 51, 1, 56}, {x, bond(1), 49, 120, 49, 1, 55}, {x, bond(1), 0, 120, 0, 0, 0}, {x, bond(1), 1, 120, 1, 0, 1}, {x, bond(1), mostAmount / 2, 460, 560000000000, 14000000000, 560000000000},
		{x, plain(1), 1000, 400, 1000, 25, 1000}, {x, plain(1), mostAmount, 400, mostAmount, 25000000000, mostAmount},
		{falling, bond(1), 1000, 400, 500, 13, 1000}, {falling, bond(1), 1000, 120, 995, 25, 1000}, {falling, bond(1), mostAmount, 400, mostAmount / 2, 12500000000, mostAmount},
		{great, bond(1), 1000, 120, 1000000000, 25000000, 2000}, {great, bond(1), 1000000, 120, mostAmount, 25000000000, 2000000},
	} {
		for what, got := range map[string]func() (int, api.Errno){"scaled": func() (int, api.Errno) { return Scaled(c.x, c.s, c.amount, c.day) }, "coupon": func() (int, api.Errno) { return Coupon(c.x, c.s, c.amount, c.day) }, "final": func() (int, api.Errno) { return Final(c.x, c.s, c.amount) }} {
			want := map[string]int{"scaled": c.scaled, "coupon": c.coupon, "final": c.final}[what]
			if n, e := got(); n != want || e != api.OK {
				t.Errorf("%v, %d on %d, %s: %d, error %d, not %d", c.s, c.amount, c.day, what, n, e, want)
			}
		}
	}
	for _, c := range []struct {
		x           api.Index
		s           api.Security
		amount, day int
		e, final    api.Errno
	}{
		{x, bond(1), -1, 99, api.ErrOrder, api.ErrRange}, {x, bond(1), -1, 120, api.ErrRange, api.ErrRange}, {x, bond(1), mostAmount + 1, 120, api.ErrRange, api.ErrRange}, {falling, bond(1), mostAmount + 1, 400, api.ErrRange, api.ErrRange}, {x, plain(1), -1, 120, api.ErrRange, api.ErrRange}, {x, plain(1), mostAmount + 1, 120, api.ErrRange, api.ErrRange},
		{x, bond(1), mostAmount, 119, api.OK, api.ErrRange}, {x, bond(1), mostAmount, 120, api.ErrRange, api.ErrRange}, {great, bond(1), 1000001, 120, api.ErrRange, api.OK}, {great, bond(1), mostAmount/2 + 1, 220, api.OK, api.ErrRange},
		{x, bond(0), -1, 120, api.ErrSecurity, api.ErrSecurity}, {values(5), bond(1), -1, 120, api.ErrRange, api.ErrIndex}, {values(5), bond(1), -1, 300, api.ErrIndex, api.ErrIndex}, {x, bond(1), math.MinInt, 120, api.ErrRange, api.ErrRange}, {x, bond(1), math.MaxInt, 120, api.ErrRange, api.ErrRange},
	} {
		if n, e := Scaled(c.x, c.s, c.amount, c.day); e != c.e || e != api.OK && n != 0 {
			t.Errorf("%v, %d on %d: %d, error %d, not %d", c.s, c.amount, c.day, n, e, c.e)
		}
		if n, e := Coupon(c.x, c.s, c.amount, c.day); e != c.e || e != api.OK && n != 0 {
			t.Errorf("%v, coupon on %d on %d: %d, error %d, not %d", c.s, c.amount, c.day, n, e, c.e)
		}
		if n, e := Final(c.x, c.s, c.amount); e != c.final || e != api.OK && n != 0 {
			t.Errorf("%v, final of %d: %d, error %d, not %d", c.s, c.amount, n, e, c.final)
		}
	}
}

// P36.3

func TestPending(t *testing.T) {
	x := values(20)
	late := bond(4)
	late.Maturity = 820
	r := holds(t, []api.Security{bond(2), plain(3), late}, held(2, 1, 100000), held(2, 5, 19), held(3, 1, 100000), held(3, 5, 19), held(2, 6, 18), held(4, 1, 1000))
	for day, want := range map[int][]api.Due{
		100: nil, 279: nil, 281: nil, 459: nil, 461: nil,
		// 280 is in the month 9, 460 in the month 15: the values are 106 and 112.
		280: {due(280, 2, 1, 1, 2650), due(280, 2, 5, 1, 1), due(280, 3, 1, 1, 2500), due(280, 4, 1, 1, 27)},
		460: {due(460, 2, 1, 1, 2800), due(460, 2, 1, 2, 112000), due(460, 2, 5, 1, 1), due(460, 2, 5, 2, 21), due(460, 2, 6, 1, 1), due(460, 2, 6, 2, 20), due(460, 3, 1, 1, 2500), due(460, 3, 1, 2, 100000), due(460, 3, 5, 2, 19), due(460, 4, 1, 1, 28)},
	} {
		if got, e := Pending(x, r, day); e != api.OK || !slices.Equal(got, want) {
			t.Errorf("day %d: %v, error %d, not %v", day, got, e, want)
		}
	}
	falling := api.Index{Values: append(slices.Repeat([]int{100}, 9), slices.Repeat([]int{1}, 9)...)}
	if got, e := Pending(falling, holds(t, []api.Security{bond(2)}, held(2, 1, 100)), 460); e != api.OK || !slices.Equal(got, []api.Due{due(460, 2, 1, 2, 100)}) {
		t.Errorf("%v, error %d", got, e)
	}
	moved, e := register.Transfer(r, 300, 2, 1, 9, 100000)
	if e != api.OK {
		t.Fatalf("error %d", e)
	}
	if got, _ := Pending(x, moved, 280); got[0] != due(280, 2, 1, 1, 2650) {
		t.Errorf("%v", got)
	}
}

func TestErrorsOfPending(t *testing.T) {
	x := values(20)
	broken := holds(t, []api.Security{bond(2)}, held(2, 1, 5))
	broken.Holdings[0].Amount++
	r := holds(t, []api.Security{plain(1), bond(2)}, held(1, 1, 5), held(2, 1, 5))
	doubled := api.Index{Values: append(slices.Repeat([]int{100}, 9), slices.Repeat([]int{200}, 9)...)}
	rich := holds(t, []api.Security{plain(1), bond(2)}, held(1, 1, mostAmount), held(2, 1, mostAmount/2+1))
	zero := bond(2)
	zero.Every, zero.Rate = 0, 0
	for _, c := range []struct {
		name string
		x    api.Index
		r    api.Register
		day  int
		want api.Errno
	}{
		{"a broken register", x, broken, -1, api.ErrRegister},
		{"a large register", x, api.Register{Securities: make([]api.Security, 21)}, -1, api.ErrLimit},
		{"before day 0", x, r, -1, api.ErrRange},
		{"too late", x, r, lastDay - 9, api.ErrRange},
		{"the last day", x, r, lastDay - 10, api.OK},
		{"no value for the coupon", values(6), r, 280, api.ErrIndex},
		{"no value on a day without coupons", values(6), r, 281, api.OK},
		{"no value for the principal", values(12), r, 460, api.ErrIndex},
		{"a value for the principal", values(13), r, 460, api.OK},
		{"too much at the maturity", doubled, rich, 460, api.ErrRange},
		{"not too much before", doubled, rich, 280, api.OK},
		{"too much without coupons", doubled, holds(t, []api.Security{zero}, held(2, 1, mostAmount/2+1)), 460, api.ErrRange},
		{"the second holding", doubled, holds(t, []api.Security{zero}, held(2, 1, 5), held(2, 2, mostAmount/2+1)), 460, api.ErrRange},
	} {
		kept := fmt.Sprint(c.r)
		if got, e := Pending(c.x, c.r, c.day); e != c.want || e != api.OK && len(got) > 0 || kept != fmt.Sprint(c.r) {
			t.Errorf("%s: %v, error %d, not %d", c.name, got, e, c.want)
		}
	}
}

// The consequences

func TestRandomIndexes(t *testing.T) {
	r := rand.New(rand.NewSource(361))
	for range 300 {
		reg := holds(t, []api.Security{bond(1), plain(2)}, held(1, 1, 1+r.Intn(1000)), held(1, 2, 1+r.Intn(1000)), held(2, 1, 1+r.Intn(1000)))
		still := api.Index{Values: slices.Repeat([]int{1 + r.Intn(500)}, 20)}
		for _, day := range []int{100, 280, 460} {
			a, e := Pending(still, reg, day)
			b, _ := coupon.Pending(reg, day)
			if e != api.OK || !slices.Equal(a, b) {
				t.Fatalf("%v, error %d, not %v", a, e, b)
			}
		}
		less := api.Index{Values: make([]int, 20)}
		for i := range less.Values {
			less.Values[i] = 1 + r.Intn(300)
		}
		more := api.Index{Values: slices.Clone(less.Values)}
		for i := 1; i < 20; i++ {
			more.Values[i] += r.Intn(50)
		}
		for _, day := range []int{120, 280, 460} {
			amount := r.Intn(5000)
			a, _ := Coupon(less, bond(1), amount, day)
			b, _ := Coupon(more, bond(1), amount, day)
			x, _ := Final(less, bond(1), amount)
			y, _ := Final(more, bond(1), amount)
			if b < a || y < x || x < amount {
				t.Fatalf("%d and %d, %d and %d for %d", a, b, x, y, amount)
			}
		}
	}
}
