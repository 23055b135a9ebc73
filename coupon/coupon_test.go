package coupon

import (
	"fmt"
	"math"
	"math/big"
	"math/rand"
	"slices"
	"testing"

	"treasury/api"
	"treasury/register"
)

// The limits are written out here as the document has them, so that a wrong one shows.
const (
	mostAmount = 1000000000000
	mostRate   = 20000
	mostTerm   = 18000
	mostFlows  = 400
	lastDay    = 36000
)

// bond is a security with coupons of 2 1/2 per cent on the days 280 and 460.
func bond(id int) api.Security {
	return api.Security{ID: id, Unit: 1, Issued: 100, Maturity: 460, Rate: 5000, Every: 6}
}

// bill is a security without coupons until the day 460.
func bill(id int) api.Security {
	return api.Security{ID: id, Unit: 1, Issued: 100, Maturity: 460}
}

// holds is a register with securities, of which holders were issued some amounts on the day 100.
func holds(t *testing.T, l []api.Security, held ...api.Holding) api.Register {
	t.Helper()
	var r api.Register
	e := api.OK
	for _, s := range l {
		if r, e = register.Add(r, s); e != api.OK {
			t.Fatalf("error %d", e)
		}
	}
	for _, h := range held {
		if r, e = register.Issue(r, 100, h.Security, h.Holder, h.Amount); e != api.OK {
			t.Fatalf("error %d", e)
		}
	}
	return r
}

func held(id, holder, amount int) api.Holding {
	return api.Holding{Security: id, Holder: holder, Amount: amount}
}

func due(day, id, holder, kind, amount int) api.Due {
	return api.Due{Day: day, Security: id, Holder: holder, Kind: kind, Amount: amount}
}

func flow(day, amount, ref int) api.Flow {
	return api.Flow{Day: day, Amount: amount, Kind: 4, Ref: ref}
}

// P34.1

func TestDaysAndLast(t *testing.T) {
	monthly := api.Security{ID: 1, Unit: 1, Issued: 0, Maturity: 90, Rate: 1, Every: 1}
	for _, c := range []struct {
		s    api.Security
		days []int
	}{{bond(1), []int{280, 460}}, {bill(1), nil}, {monthly, []int{30, 60, 90}}, {api.Security{ID: 1, Unit: 1, Issued: 7, Maturity: 727, Every: 12}, []int{367, 727}}, {api.Security{ID: 1, Unit: 1, Issued: 7, Maturity: 97, Every: 3, Rate: mostRate}, []int{97}}} {
		if got := Days(c.s); !slices.Equal(got, c.days) {
			t.Errorf("%v: %v, not %v", c.s, got, c.days)
		}
		for day := -1; day <= c.s.Maturity+1; day++ {
			want := c.s.Issued
			for _, x := range c.days {
				if x <= day {
					want = x
				}
			}
			if day < c.s.Issued || day > c.s.Maturity {
				want = -1
			}
			if got := Last(c.s, day); got != want {
				t.Errorf("%v, day %d: %d, not %d", c.s, day, got, want)
			}
		}
	}
	long := api.Security{ID: 1, Unit: 1, Issued: 0, Maturity: mostTerm, Every: 1}
	if got := Days(long); len(got) != 600 || got[599] != mostTerm {
		t.Errorf("%d days", len(got))
	}
	for _, s := range wrong() {
		if len(Days(s)) > 0 || Last(s, 200) != -1 {
			t.Errorf("%v: %v, %d", s, Days(s), Last(s, 200))
		}
	}
	for _, day := range []int{math.MinInt, math.MaxInt} {
		if Last(bond(1), day) != -1 {
			t.Errorf("day %d: %d", day, Last(bond(1), day))
		}
	}
}

// wrong returns securities that are not valid.
func wrong() []api.Security {
	a, b, c := bond(1), bond(0), bond(1)
	a.Every, c.Maturity = 5, 461
	return []api.Security{a, b, c, {}, {Every: math.MinInt, Maturity: math.MaxInt}}
}

// P34.2

func TestCouponAndAccrued(t *testing.T) {
	monthly := api.Security{ID: 1, Unit: 1, Issued: 0, Maturity: 90, Rate: 1, Every: 1}
	yearly := api.Security{ID: 1, Unit: 1, Issued: 0, Maturity: 720, Rate: mostRate, Every: 12}
	for _, c := range []struct {
		s            api.Security
		amount, want int
	}{
		{bond(1), 100000, 2500}, {bond(1), 0, 0}, {bond(1), 20, 1}, {bond(1), 19, 0}, {bond(1), 60, 2}, {bond(1), 59, 1}, {bond(1), 1, 0}, {bill(1), mostAmount, 0},
		{monthly, 600000, 1}, {monthly, 599999, 0}, {monthly, mostAmount, 833333}, {yearly, mostAmount, 200000000000}, {yearly, 5, 1}, {yearly, 7, 1}, {yearly, 8, 2}, {yearly, 3, 1}, {yearly, 2, 0},
	} {
		if got, e := Coupon(c.s, c.amount); e != api.OK || got != c.want {
			t.Errorf("%v, %d: %d, error %d, not %d", c.s, c.amount, got, e, c.want)
		}
	}
	for _, c := range []struct {
		s                 api.Security
		amount, day, want int
	}{
		{bond(1), 100000, 190, 1250}, {bond(1), 100000, 100, 0}, {bond(1), 100000, 280, 0}, {bond(1), 100000, 460, 0}, {bond(1), 100000, 370, 1250}, {bond(1), 100000, 279, 2486}, {bond(1), 100000, 101, 14}, {bond(1), 100000, 281, 14},
		{bond(1), 3600, 101, 1}, {bond(1), 3599, 101, 0}, {bond(1), 0, 101, 0}, {bill(1), mostAmount, 300, 0}, {yearly, mostAmount, 359, 199444444444}, {yearly, mostAmount, 719, 199444444444}, {yearly, mostAmount, 360, 0},
	} {
		if got, e := Accrued(c.s, c.amount, c.day); e != api.OK || got != c.want {
			t.Errorf("%v, %d on %d: %d, error %d, not %d", c.s, c.amount, c.day, got, e, c.want)
		}
	}
	for _, c := range []struct {
		s           api.Security
		amount, day int
		coupon      api.Errno
		accrued     api.Errno
	}{
		{bond(1), -1, 0, api.ErrRange, api.ErrRange}, {bond(1), mostAmount + 1, 200, api.ErrRange, api.ErrRange}, {bond(1), math.MaxInt, 200, api.ErrRange, api.ErrRange},
		{bond(1), 5, 99, api.OK, api.ErrOrder}, {bond(1), 5, 461, api.OK, api.ErrOrder}, {bond(1), 5, math.MinInt, api.OK, api.ErrOrder}, {bill(1), 5, 461, api.OK, api.ErrOrder}, {bill(1), 5, 99, api.OK, api.ErrOrder}, {bond(1), 5, 460, api.OK, api.OK},
		{wrong()[0], -1, 0, api.ErrSecurity, api.ErrSecurity}, {wrong()[1], 5, 200, api.ErrSecurity, api.ErrSecurity}, {wrong()[4], 5, 200, api.ErrSecurity, api.ErrSecurity},
	} {
		if got, e := Coupon(c.s, c.amount); e != c.coupon || e != api.OK && got != 0 {
			t.Errorf("%v, %d: %d, error %d, not %d", c.s, c.amount, got, e, c.coupon)
		}
		if got, e := Accrued(c.s, c.amount, c.day); e != c.accrued || e != api.OK && got != 0 {
			t.Errorf("%v, %d on %d: %d, error %d, not %d", c.s, c.amount, c.day, got, e, c.accrued)
		}
	}
}

// exact returns amount * rate * times / den, rounded to the nearest whole number, a half up.
func exact(amount, rate, times, den int) int {
	n := big.NewInt(2)
	for _, x := range []int{amount, rate, times} {
		n.Mul(n, big.NewInt(int64(x)))
	}
	n.Add(n, big.NewInt(int64(den)))
	return int(n.Div(n, big.NewInt(int64(2*den))).Int64())
}

func TestRandomInterest(t *testing.T) {
	r := rand.New(rand.NewSource(341))
	for range 3000 {
		s := api.Security{ID: 1, Unit: 1, Issued: r.Intn(300), Rate: r.Intn(mostRate + 1), Every: []int{1, 3, 6, 12}[r.Intn(4)]}
		s.Maturity = s.Issued + 30*s.Every*(1+r.Intn(5))
		amount := r.Intn(mostAmount + 1)
		if r.Intn(2) == 0 {
			amount = r.Intn(1000)
		}
		whole, e := Coupon(s, amount)
		if want := exact(amount, s.Rate, s.Every, 1200000); e != api.OK || whole != want {
			t.Fatalf("%v, %d: %d, error %d, not %d", s, amount, whole, e, want)
		}
		before := 0
		for day := s.Issued; day <= s.Maturity; day++ {
			got, e := Accrued(s, amount, day)
			if want := exact(amount, s.Rate, (day-s.Issued)%(30*s.Every), 36000000); e != api.OK || got != want || got > whole {
				t.Fatalf("%v, %d on %d: %d, error %d, not %d", s, amount, day, got, e, want)
			}
			if got < before && !slices.Contains(Days(s), day) {
				t.Fatalf("%v, %d on %d: %d behind %d", s, amount, day, got, before)
			}
			before = got
		}
	}
}

// P34.3

func TestPending(t *testing.T) {
	small := bond(5)
	small.Rate = 1
	r := holds(t, []api.Security{bond(3), bill(4), small}, held(3, 9, 100000), held(4, 2, 700), held(3, 1, 60), held(5, 1, 100), held(4, 1, 50))
	r, e := register.Transfer(r, 280, 3, 9, 2, 40000)
	if e != api.OK {
		t.Fatalf("error %d", e)
	}
	for day, want := range map[int][]api.Due{
		0: nil, 99: nil, 100: nil, 279: nil, 281: nil, 459: nil, 461: nil, lastDay - 10: nil,
		280: {due(280, 3, 1, 1, 2), due(280, 3, 2, 1, 1000), due(280, 3, 9, 1, 1500)},
		460: {due(460, 3, 1, 1, 2), due(460, 3, 1, 2, 60), due(460, 3, 2, 1, 1000), due(460, 3, 2, 2, 40000), due(460, 3, 9, 1, 1500), due(460, 3, 9, 2, 60000), due(460, 4, 1, 2, 50), due(460, 4, 2, 2, 700), due(460, 5, 1, 2, 100)},
	} {
		if got, e := Pending(r, day); e != api.OK || !slices.Equal(got, want) {
			t.Errorf("day %d: %v, error %d, not %v", day, got, e, want)
		}
	}
	// What moves later does not matter.
	r, e = register.Transfer(r, 300, 3, 9, 7, 10)
	if e != api.OK {
		t.Fatalf("error %d", e)
	}
	if got, _ := Pending(r, 280); len(got) != 3 || got[2].Amount != 1500 {
		t.Errorf("%v", got)
	}
	if r, e = register.Redeem(r, 460, 4, 2, 700); e != api.OK {
		t.Fatalf("error %d", e)
	}
	if got, _ := Pending(r, 460); slices.ContainsFunc(got, func(d api.Due) bool { return d.Security == 4 && d.Holder == 2 }) {
		t.Errorf("%v", got)
	}
}

func TestUntil(t *testing.T) {
	// 280 is a business day; 460 is the sixth day of a week, so that it is paid on 462. So are 200 and 290.
	short := api.Security{ID: 9, Unit: 1, Issued: 110, Maturity: 290, Rate: 12000, Every: 3}
	r := holds(t, []api.Security{bond(3), bill(4)}, held(3, 9, 100000), held(4, 2, 700), held(3, 1, 60))
	r, _ = register.Add(r, short)
	r, e := register.Issue(r, 120, 9, 3, 1000)
	if e != api.OK {
		t.Fatalf("error %d", e)
	}
	all := []api.Flow{flow(200, -30, 9), flow(280, -2502, 3), flow(290, -30, 9), flow(290, -1000, 9), flow(462, -2502, 3), flow(462, -100060, 3), flow(462, -700, 4)}
	for _, c := range []struct{ from, to, first, last int }{{0, lastDay - 10, 0, 7}, {200, 460, 0, 7}, {201, 459, 1, 4}, {291, 460, 4, 7}, {290, 290, 2, 4}, {460, 460, 4, 7}, {461, 470, 0, 0}, {300, 200, 0, 0}, {280, 280, 1, 2}} {
		want := all[c.first:c.last]
		if got, e := Until(r, c.from, c.to); e != api.OK || !slices.Equal(got, want) {
			t.Errorf("%d to %d: %v, error %d, not %v", c.from, c.to, got, e, want)
		}
	}
	// Coupons are rounded for each holding, and what is 0 together is left out.
	tiny := holds(t, []api.Security{bond(3)}, held(3, 1, 59), held(3, 2, 59))
	if got, _ := Until(tiny, 0, 300); !slices.Equal(got, []api.Flow{flow(280, -2, 3)}) {
		t.Errorf("%v", got)
	}
	none := holds(t, []api.Security{bond(3), bond(4)}, held(3, 1, 19), held(3, 2, 19))
	if got, _ := Until(none, 0, 500); !slices.Equal(got, []api.Flow{flow(462, -38, 3)}) {
		t.Errorf("%v", got)
	}
	// The present holdings count, whatever was on the day.
	r, e = register.Redeem(r, 461, 4, 2, 700)
	if e != api.OK {
		t.Fatalf("error %d", e)
	}
	if got, _ := Until(r, 0, 500); !slices.Equal(got, all[:6]) {
		t.Errorf("%v", got)
	}
}

func TestErrors(t *testing.T) {
	r := holds(t, []api.Security{bond(3)}, held(3, 1, 100))
	broken := holds(t, []api.Security{bond(3)}, held(3, 1, 100))
	broken.Holdings[0].Amount++
	large := api.Register{Securities: make([]api.Security, 21)}
	for _, c := range []struct {
		r        api.Register
		from, to int
		want     api.Errno
	}{
		{broken, -1, 5, api.ErrRegister}, {large, -1, 5, api.ErrLimit}, {r, -1, 5, api.ErrRange}, {r, lastDay - 9, lastDay - 10, api.ErrRange}, {r, math.MinInt, 5, api.ErrRange},
	} {
		if got, e := Pending(c.r, c.from); e != c.want || len(got) > 0 {
			t.Errorf("%d: %v, error %d, not %d", c.from, got, e, c.want)
		}
		for _, span := range [][2]int{{c.from, c.to}, {c.to, c.from}} {
			if got, e := Until(c.r, span[0], span[1]); e != c.want || len(got) > 0 {
				t.Errorf("%v: %v, error %d, not %d", span, got, e, c.want)
			}
		}
	}
	if _, e := Pending(r, lastDay-10); e != api.OK {
		t.Errorf("error %d", e)
	}
	long := api.Security{ID: 1, Unit: 1, Issued: 100, Maturity: 100 + 30*399, Rate: 5000, Every: 1}
	many := holds(t, []api.Security{long}, held(1, 1, 100000))
	if got, e := Until(many, 0, lastDay-10); e != api.OK || len(got) != mostFlows {
		t.Errorf("400: %d, error %d", len(got), e)
	}
	long.Maturity += 30
	many = holds(t, []api.Security{long}, held(1, 1, 100000))
	if got, e := Until(many, 0, lastDay-10); e != api.ErrLimit || len(got) > 0 {
		t.Errorf("401: %d, error %d", len(got), e)
	}
	if got, e := Until(many, 101, 150); e != api.OK || len(got) != 1 {
		t.Errorf("%v, error %d", got, e)
	}
}

// The consequences

func TestUntilIsPending(t *testing.T) {
	r := rand.New(rand.NewSource(342))
	for range 100 {
		var l []api.Security
		var h []api.Holding
		for id := range 1 + r.Intn(4) {
			s := api.Security{ID: id + 1, Unit: 1, Issued: r.Intn(101), Rate: r.Intn(9000), Every: []int{1, 3, 6, 12}[r.Intn(4)]}
			s.Maturity = s.Issued + 30*s.Every*(1+r.Intn(4))
			if s.Maturity < 100 {
				s.Maturity += 30 * s.Every * 4
			}
			l = append(l, s)
			for holder := range r.Intn(4) {
				h = append(h, held(id+1, holder+1, 1+r.Intn(500)))
			}
		}
		reg := holds(t, l, h...)
		from := 100 + r.Intn(300)
		to := from + r.Intn(900)
		flows, e := Until(reg, from, to)
		if e != api.OK {
			t.Fatalf("error %d", e)
		}
		got := map[string]int{}
		for _, x := range flows {
			got[fmt.Sprint(x.Day, x.Ref)] += x.Amount
		}
		for day := from; day <= to; day++ {
			l, _ := Pending(reg, day)
			for _, d := range l {
				paid := day
				for paid%7 > 4 {
					paid++
				}
				got[fmt.Sprint(paid, d.Security)] += d.Amount
			}
		}
		for key, n := range got {
			if n != 0 {
				t.Fatalf("%s: %d", key, n)
			}
		}
	}
}
