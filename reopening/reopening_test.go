package reopening

import (
	"fmt"
	"math"
	"math/rand"
	"slices"
	"testing"

	"treasury/api"
	"treasury/auction"
	"treasury/coupon"
	"treasury/register"
)

// The limits are written out here as the document has them, so that a wrong one shows.
const (
	mostAmount = 1000000000000
	mostWeight = 1000000
	mostBid    = 1000000000
	mostPrice  = 200000
	mostMoves  = 400
	lastDay    = 36000
)

// bond is a security in some units with 5 per cent a year, from the day 100 to the day 820.
func bond(id, unit int) api.Security {
	return api.Security{ID: id, Unit: unit, Issued: 100, Maturity: 820, Rate: 5000, Every: 6}
}

// holds is a register with the securities 1 (units of 100), 2 (units of 400) and 3 (units of 1500), of which the holder 7 has some amounts.
func holds(t *testing.T, amounts ...int) api.Register {
	t.Helper()
	r := api.Register{Securities: []api.Security{bond(1, 100), bond(2, 400), bond(3, 1500)}}
	for i, amount := range amounts {
		if amount > 0 {
			r = issued(t, r, i+1, 7, amount)
		}
	}
	return r
}

func issued(t *testing.T, r api.Register, id, holder, amount int) api.Register {
	t.Helper()
	r, e := register.Issue(r, 100, id, holder, amount)
	if e != api.OK {
		t.Fatalf("error %d", e)
	}
	return r
}

func same(a, b api.Register) bool {
	return slices.Equal(a.Securities, b.Securities) && slices.Equal(a.Holdings, b.Holdings) && slices.Equal(a.Moves, b.Moves)
}

func bid(bidder, number, amount, price int) api.Bid {
	return api.Bid{Bidder: bidder, Number: number, Amount: amount, Price: price}
}

// P35.1

func TestCost(t *testing.T) {
	great := bond(1, 1)
	great.Rate, great.Every = 20000, 12
	for _, c := range []struct {
		s                  api.Security
		day, amount, price int
		want               int
		e                  api.Errno
	}{
		{bond(1, 1), 190, 100000, 99500, 99500 + 1250, api.OK},
		{bond(1, 1), 100, 100000, 100000, 100000, api.OK},
		{bond(1, 1), 820, 100000, 100000, 100000, api.OK},
		{bond(1, 1), 280, 0, 100000, 0, api.OK},
		{bond(1, 1), 190, 100000, 0, 1250, api.OK},
		{bond(1, 1), 190, 41, 98781, 41 + 1, api.OK}, // 40.50021 and 0.5125 are rounded, each by itself
		{api.Security{}, -1, -1, -1, 0, api.ErrSecurity},
		{bond(0, 1), 190, 100000, 99500, 0, api.ErrSecurity},
		{bond(1, 1), -1, -1, 5, 0, api.ErrRange},
		{bond(1, 1), -1, mostAmount + 1, 5, 0, api.ErrRange},
		{bond(1, 1), -1, 5, -1, 0, api.ErrRange},
		{bond(1, 1), -1, 5, mostPrice + 1, 0, api.ErrRange},
		{bond(1, 1), -1, mostAmount, mostPrice, 0, api.ErrRange},
		{bond(1, 1), 99, 5, 5, 0, api.ErrOrder},
		{bond(1, 1), 821, 5, 5, 0, api.ErrOrder},
		{bond(1, 1), math.MinInt, 5, 5, 0, api.ErrOrder},
		{great, 459, mostAmount, 100000, 0, api.ErrRange},
		{great, 460, mostAmount, 100000, mostAmount, api.OK},
		{great, 459, mostAmount, 80055, 999994444444, api.OK},
		{great, 459, mostAmount, 80056, 0, api.ErrRange},
	} {
		if got, e := Cost(c.s, c.day, c.amount, c.price); e != c.e || got != c.want {
			t.Errorf("%v, day %d, %d at %d: %d, error %d, not %d, %d", c.s, c.day, c.amount, c.price, got, e, c.want, c.e)
		}
	}
}

// P35.2

func TestOpen(t *testing.T) {
	r := holds(t, 500)
	l := []api.Bid{bid(9, 1, 6000, 98000), bid(7, 1, 6000, 99000), bid(7, 2, 3000, 98000), {Bidder: 2, Number: 1, Amount: 5000, Free: true}, bid(3, 1, 5000, 90000)}
	for _, uniform := range []bool{false, true} {
		o := api.Offer{Amount: 15000, Least: 95000, Share: 20, Uniform: uniform}
		result, _ := auction.Hold(o, l)
		if len(result.Awards) != 4 {
			t.Fatalf("%v", result)
		}
		want, cash := r, 0
		for _, a := range result.Awards {
			cost, _ := Cost(bond(1, 100), 190, a.Amount, a.Price)
			cash += cost
			var e api.Errno
			if want, e = register.Issue(want, 190, 1, a.Bidder, a.Amount); e != api.OK {
				t.Fatalf("error %d", e)
			}
		}
		kept := fmt.Sprint(r, l)
		got, n, e := Open(r, 1, 190, o, l)
		if e != api.OK || !same(got, want) || n != cash || n == 0 || kept != fmt.Sprint(r, l) {
			t.Errorf("%v, %d, error %d, not %v, %d", got, n, e, want, cash)
		}
	}
	if got := register.Outstanding(r, 1); got != 500 {
		t.Errorf("%d", got)
	}
	got, n, e := Open(r, 1, -5, api.Offer{Amount: 15000, Least: 95000}, nil)
	if e != api.OK || n != 0 || !same(got, r) {
		t.Errorf("no bids: %v, %d, error %d", got, n, e)
	}
	got.Holdings[0].Amount, got.Moves[0].Amount, got.Securities[0].Unit = -1, -1, -1
	if !same(r, holds(t, 500)) {
		t.Error("memory is shared")
	}
}

func TestErrorsOfOpen(t *testing.T) {
	broken := holds(t, 500)
	broken.Holdings[0].Amount++
	thousand := api.Register{Securities: []api.Security{bond(5, 1000), bond(6, 1001), bond(7, 2000)}}
	full := api.Register{Securities: []api.Security{bond(1, 100)}}
	for range mostMoves - 1 {
		full = issued(t, full, 1, 7, 100)
	}
	rich := holds(t, mostAmount-5000)
	o := api.Offer{Amount: 10000, Least: 1}
	one := []api.Bid{bid(1, 1, 5000, 99000)}
	two := append(slices.Clone(one), bid(2, 1, 5000, 99000))
	for _, c := range []struct {
		name    string
		r       api.Register
		id, day int
		o       api.Offer
		l       []api.Bid
		want    api.Errno
	}{
		{"a broken register", broken, 9, -1, api.Offer{}, nil, api.ErrRegister},
		{"no security", holds(t), 9, -1, api.Offer{}, nil, api.ErrSecurity},
		{"units of 1500", holds(t), 3, -1, api.Offer{}, nil, api.ErrUnit},
		{"units of 400", holds(t), 2, -1, api.Offer{}, nil, api.ErrUnit},
		{"units of 1001", thousand, 6, 100, o, one, api.ErrUnit},
		{"units of 2000", thousand, 7, 100, o, one, api.ErrUnit},
		{"units of 1000", thousand, 5, 100, o, one, api.OK},
		{"no offer", holds(t), 1, -1, api.Offer{}, []api.Bid{{}}, api.ErrOffer},
		{"no bid", holds(t), 1, -1, o, []api.Bid{{}}, api.ErrBid},
		{"a bid twice", holds(t), 1, -1, o, append(one, one...), api.ErrDuplicate},
		{"before the issue", holds(t), 1, 99, o, one, api.ErrOrder},
		{"behind the maturity", holds(t), 1, 821, o, one, api.ErrOrder},
		{"the maturity", holds(t), 1, 820, o, one, api.OK},
		{"before the last move", issued2(t, holds(t, 500), 200), 1, 190, o, one, api.ErrOrder},
		{"full", issued(t, full, 1, 7, 100), 1, 100, o, one, api.ErrLimit},
		{"full, and before the issue", issued(t, full, 1, 7, 100), 1, 99, o, one, api.ErrOrder},
		{"one more move", full, 1, 100, o, one, api.OK},
		{"two more moves", full, 1, 100, o, two, api.ErrLimit},
		{"just the largest amount", rich, 1, 100, o, one, api.OK},
		{"above the largest amount", rich, 1, 100, o, two, api.ErrRange},
	} {
		kept := fmt.Sprint(c.r)
		got, n, e := Open(c.r, c.id, c.day, c.o, c.l)
		if e != c.want || e != api.OK && (!same(got, api.Register{}) || n != 0) || kept != fmt.Sprint(c.r) {
			t.Errorf("%s: %v, %d, error %d, not %d", c.name, got, n, e, c.want)
		}
	}
}

// issued2 returns a register with one more issue, on a day.
func issued2(t *testing.T, r api.Register, day int) api.Register {
	t.Helper()
	r, e := register.Issue(r, day, 1, 7, 100)
	if e != api.OK {
		t.Fatalf("error %d", e)
	}
	return r
}

// P35.3

func TestCheck(t *testing.T) {
	broken := holds(t, 500)
	broken.Holdings[0].Amount++
	for _, c := range []struct {
		r    api.Register
		x    api.Switch
		want api.Errno
	}{
		{holds(t), api.Switch{Old: 1, New: 2, Num: 1, Den: 1}, api.OK}, {holds(t), api.Switch{Old: 3, New: 1, Num: mostWeight, Den: mostWeight}, api.OK},
		{broken, api.Switch{}, api.ErrRegister}, {api.Register{Securities: make([]api.Security, 21)}, api.Switch{}, api.ErrLimit},
		{holds(t), api.Switch{Old: 4, New: 2, Num: 1, Den: 1}, api.ErrSwitch}, {holds(t), api.Switch{Old: 1, New: 4, Num: 1, Den: 1}, api.ErrSwitch}, {holds(t), api.Switch{Old: 1, New: 1, Num: 1, Den: 1}, api.ErrSwitch},
		{holds(t), api.Switch{Old: 1, New: 2, Num: 0, Den: 1}, api.ErrSwitch}, {holds(t), api.Switch{Old: 1, New: 2, Num: 1, Den: 0}, api.ErrSwitch}, {holds(t), api.Switch{Old: 1, New: 2, Num: mostWeight + 1, Den: 1}, api.ErrSwitch}, {holds(t), api.Switch{Old: 1, New: 2, Num: 1, Den: mostWeight + 1}, api.ErrSwitch}, {holds(t), api.Switch{}, api.ErrSwitch},
	} {
		if e := Check(c.r, c.x); e != c.want {
			t.Errorf("%v: error %d, not %d", c.x, e, c.want)
		}
		if got, n, e := Swap(c.r, -1, c.x, 0, -1); c.want != api.OK && (e != c.want || n != 0 || !same(got, api.Register{})) {
			t.Errorf("%v, Swap: %v, %d, error %d, not %d", c.x, got, n, e, c.want)
		}
	}
}

func TestGiven(t *testing.T) {
	half := api.Switch{Num: 3, Den: 2}
	for _, c := range []struct {
		x            api.Switch
		unit, amount int
		given, left  int
	}{
		{half, 400, 1000, 1200, 300}, {half, 1, 1001, 1501, 0}, {half, 1, 1, 1, 0}, {half, 2, 1, 0, 1}, {half, 400, 0, 0, 0}, {half, 1500, 1000, 1500, 0}, {half, 1501, 1000, 0, 1500}, {half, mostBid, 1000, 0, 1500},
		{api.Switch{Num: mostWeight, Den: mostWeight}, 1, mostAmount, mostAmount, 0}, {api.Switch{Num: mostWeight, Den: 1}, 7, 1000000, mostAmount - 1, 1}, {api.Switch{Num: mostWeight, Den: 1}, 7, 1000001, 0, 0}, {api.Switch{Num: 2, Den: 1}, 1, mostAmount, 0, 0}, {api.Switch{Num: mostWeight, Den: 1}, 1, mostAmount, 0, 0},
		{api.Switch{Num: 1, Den: 2}, 1, mostAmount + 1, 0, 0}, {api.Switch{Num: 1, Den: 2}, 1, mostAmount, mostAmount / 2, 0},
		{half, 0, 1000, 0, 0}, {half, -1, 1000, 0, 0}, {half, mostBid + 1, 1000, 0, 0}, {half, 1, -1, 0, 0}, {half, 1, mostAmount + 1, 0, 0}, {half, 1, math.MaxInt, 0, 0}, {half, math.MinInt, math.MinInt, 0, 0},
		{api.Switch{Num: 0, Den: 1}, 1, 5, 0, 0}, {api.Switch{Num: 1, Den: 0}, 1, 5, 0, 0}, {api.Switch{Num: mostWeight + 1, Den: mostWeight}, 1, 5, 0, 0}, {api.Switch{Num: 1, Den: mostWeight + 1}, 1, mostAmount, 0, 0}, {api.Switch{}, 1, 5, 0, 0},
	} {
		if given, left := Given(c.x, c.unit, c.amount); given != c.given || left != c.left {
			t.Errorf("%v in units of %d, %d: %d, %d, not %d, %d", c.x, c.unit, c.amount, given, left, c.given, c.left)
		}
	}
}

func TestSwap(t *testing.T) {
	r := holds(t, 2000, 400)
	kept := fmt.Sprint(r)
	x := api.Switch{Old: 1, New: 2, Num: 3, Den: 2}
	got, cash, e := Swap(r, 190, x, 7, 1000)
	want, _ := register.Redeem(r, 190, 1, 7, 1000)
	want, _ = register.Issue(want, 190, 2, 7, 1200)
	if e != api.OK || cash != 300 || !same(got, want) || kept != fmt.Sprint(r) {
		t.Errorf("%v, %d, error %d, not %v", got, cash, e, want)
	}
	if register.Outstanding(got, 1) != 1000 || register.Outstanding(got, 2) != 1600 {
		t.Errorf("%v", got)
	}
	// What is less than a unit is only redeemed.
	got, cash, e = Swap(r, 190, x, 7, 200)
	want, _ = register.Redeem(r, 190, 1, 7, 200)
	if e != api.OK || cash != 300 || !same(got, want) {
		t.Errorf("%v, %d, error %d, not %v", got, cash, e, want)
	}
	// Then it can be behind the maturity.
	if _, cash, e = Swap(r, 821, x, 7, 200); e != api.OK || cash != 300 {
		t.Errorf("%d, error %d", cash, e)
	}
	least := issued(t, api.Register{Securities: []api.Security{bond(1, 1), bond(2, 1)}}, 1, 7, 1)
	if got, cash, e = Swap(least, 190, api.Switch{Old: 1, New: 2, Num: 1, Den: 1}, 7, 1); e != api.OK || cash != 0 || register.Held(got, 2, 7) != 1 {
		t.Errorf("the least: %v, %d, error %d", got, cash, e)
	}
	broad := api.Switch{Old: 1, New: 2, Num: mostWeight, Den: 1}
	full := api.Register{Securities: []api.Security{bond(1, 100), bond(2, 400)}}
	for range mostMoves - 2 {
		full = issued(t, full, 1, 7, 100)
	}
	rich := holds(t, 2000, mostAmount-800)
	for _, c := range []struct {
		name           string
		r              api.Register
		day            int
		x              api.Switch
		holder, amount int
		want           api.Errno
	}{
		{"an amount below 0", r, -1, x, 0, -1, api.ErrRange},
		{"too large an amount", r, -1, x, 0, mostAmount + 1, api.ErrRange},
		{"too much is given", r, -1, broad, 0, 1000100, api.ErrRange},
		{"not too much is given", r, -1, broad, 0, 1000000, api.ErrOrder},
		{"too large an amount that brings less", r, -1, api.Switch{Old: 1, New: 2, Num: 1, Den: 2}, 0, mostAmount + 1, api.ErrRange},
		{"a large amount that brings little", r, 190, api.Switch{Old: 1, New: 2, Num: 1, Den: mostWeight}, 7, 2000000, api.ErrHolding},
		{"an extreme amount", r, -1, x, 0, math.MaxInt, api.ErrRange},
		{"before the issue", r, 99, x, 7, 1000, api.ErrOrder},
		{"behind the maturity", r, 821, x, 7, 1000, api.ErrOrder},
		{"an amount of 0", r, 190, x, 7, 0, api.ErrUnit},
		{"no multiple", r, 190, x, 7, 150, api.ErrUnit},
		{"no holder", r, 190, x, 1001, 1000, api.ErrUnknown},
		{"less is held", r, 190, x, 7, 2100, api.ErrHolding},
		{"nothing is held", r, 190, x, 8, 100, api.ErrHolding},
		{"two moves", full, 190, x, 7, 1000, api.OK},
		{"one move", issued(t, full, 1, 7, 100), 190, x, 7, 1000, api.ErrLimit},
		{"one move that is enough", issued(t, full, 1, 7, 100), 190, x, 7, 200, api.OK},
		{"no move", issued(t, issued(t, full, 1, 7, 100), 1, 7, 100), 190, x, 7, 200, api.ErrLimit},
		{"the largest amount", rich, 190, x, 7, 600, api.OK},
		{"above the largest amount", rich, 190, x, 7, 1000, api.ErrRange},
	} {
		got, cash, e := Swap(c.r, c.day, c.x, c.holder, c.amount)
		if e != c.want || e != api.OK && (cash != 0 || !same(got, api.Register{})) {
			t.Errorf("%s: %v, %d, error %d, not %d", c.name, got, cash, e, c.want)
		}
	}
}

// The consequences

func TestRandomSwaps(t *testing.T) {
	r := rand.New(rand.NewSource(351))
	for range 500 {
		x := api.Switch{Old: 1, New: 2, Num: 1 + r.Intn(5), Den: 1 + r.Intn(5)}
		reg := holds(t, 100*(1+r.Intn(50)))
		amount := 100 * (1 + r.Intn(50))
		got, cash, e := Swap(reg, 150, x, 7, amount)
		if (e == api.OK) != (amount <= register.Outstanding(reg, 1)) {
			t.Fatalf("error %d", e)
		}
		if e != api.OK {
			continue
		}
		given := register.Outstanding(got, 2)
		if register.Outstanding(got, 1) != register.Outstanding(reg, 1)-amount || given%400 != 0 || given+cash != amount*x.Num/x.Den || cash >= 400 {
			t.Fatalf("%v: %d are given for %d, and %d in cash", x, given, amount, cash)
		}
		accrued, _ := coupon.Accrued(bond(1, 100), amount, 150)
		pay, _ := auction.Pay(amount, 97000)
		if cost, _ := Cost(bond(1, 100), 150, amount, 97000); cost != accrued+pay {
			t.Fatalf("%d", cost)
		}
	}
}
