package buyback

import (
	"fmt"
	"math"
	"math/rand"
	"slices"
	"testing"

	"treasury/api"
	"treasury/register"
	"treasury/reopening"
)

// The limits are written out here as the document has them, so that a wrong one shows.
const (
	mostAmount  = 1000000000000
	mostBid     = 1000000000
	mostPrice   = 200000
	mostTenders = 60
	mostMoves   = 400
	mostYears   = 60
	lastDay     = 36000
	lot         = 1000
)

// tender is a tender in lots.
func tender(holder, number, lots, price int) api.Tender {
	return api.Tender{Holder: holder, Number: number, Price: price, Amount: lot * lots}
}

// award is an award in lots.
func award(bidder, number, lots, price int) api.Award {
	return api.Award{Bidder: bidder, Number: number, Amount: lot * lots, Price: price}
}

func same(a, b api.Result) bool {
	return a.Cut == b.Cut && a.Sold == b.Sold && slices.Equal(a.Awards, b.Awards)
}

// crowd returns so many tenders.
func crowd(n int) []api.Tender {
	var l []api.Tender
	for i := range n {
		l = append(l, tender(i+1, 1, 1, 5))
	}
	return l
}

// bond is a security in some units with 5 per cent a year, from the day 100 to the day 820.
func bond(id, unit int) api.Security {
	return api.Security{ID: id, Unit: unit, Issued: 100, Maturity: 820, Rate: 5000, Every: 6}
}

// holds is a register with the security 1 in units of 500, of which the holders 1, 2 and so on have some lots.
func holds(t *testing.T, lots ...int) api.Register {
	t.Helper()
	r := api.Register{Securities: []api.Security{bond(1, 500), bond(2, 400), bond(3, 2000)}}
	for i, n := range lots {
		if n > 0 {
			r = issued(t, r, 100, i+1, lot*n)
		}
	}
	return r
}

func issued(t *testing.T, r api.Register, day, holder, amount int) api.Register {
	t.Helper()
	r, e := register.Issue(r, day, 1, holder, amount)
	if e != api.OK {
		t.Fatalf("error %d", e)
	}
	return r
}

// P38.1

func TestValidAndCheck(t *testing.T) {
	good := []api.Tender{tender(1, 1, 1, 1), {Holder: 1000, Number: 40, Price: mostPrice, Amount: mostBid}, tender(1, 2, 7, 99000)}
	for _, x := range good {
		if !Valid(x) {
			t.Errorf("%v", x)
		}
	}
	if e := Check(good); e != api.OK {
		t.Errorf("error %d", e)
	}
	for _, x := range []api.Tender{
		tender(0, 1, 1, 1), tender(1001, 1, 1, 1), tender(1, 0, 1, 1), tender(1, 41, 1, 1), tender(1, 1, 0, 1), tender(1, 1, -1, 1), tender(1, 1, mostBid/lot+1, 1), {Holder: 1, Number: 1, Price: 1, Amount: 1500}, {Holder: 1, Number: 1, Price: 1, Amount: 1}, {Holder: 1, Number: 1, Price: 1, Amount: math.MinInt},
		tender(1, 1, 1, 0), tender(1, 1, 1, -1), tender(1, 1, 1, mostPrice+1), {},
	} {
		l := append(slices.Clone(good), x)
		if Valid(x) || Check(l) != api.ErrTender {
			t.Errorf("%v: %v, error %d", x, Valid(x), Check(l))
		}
		if r, e := Hold(l, -1, -1); e != api.ErrTender || !same(r, api.Result{}) {
			t.Errorf("%v: %v, error %d", x, r, e)
		}
	}
	for _, c := range []struct {
		l    []api.Tender
		want api.Errno
	}{
		{nil, api.OK}, {crowd(mostTenders), api.OK}, {crowd(mostTenders + 1), api.ErrLimit}, {make([]api.Tender, mostTenders+1), api.ErrLimit},
		{[]api.Tender{tender(1, 1, 1, 1), tender(1, 1, 2, 2)}, api.ErrDuplicate}, {[]api.Tender{tender(1, 1, 1, 1), tender(2, 1, 1, 1), tender(1, 2, 1, 1), tender(2, 1, 1, 1)}, api.ErrDuplicate}, {[]api.Tender{tender(1, 1, 1, 1), tender(1, 1, 1, 0)}, api.ErrTender},
	} {
		if e := Check(c.l); e != c.want {
			t.Errorf("%d tenders: error %d, not %d", len(c.l), e, c.want)
		}
		if r, e := Hold(c.l, 0, 0); c.want != api.OK && (e != c.want || !same(r, api.Result{})) {
			t.Errorf("%d tenders: %v, error %d, not %d", len(c.l), r, e, c.want)
		}
	}
}

func TestHold(t *testing.T) {
	for _, c := range []struct {
		name       string
		l          []api.Tender
		lots, most int
		want       api.Result
	}{
		{"none", nil, 5, 100, api.Result{}},
		{"the example", []api.Tender{tender(1, 1, 3, 101), tender(2, 1, 4, 100)}, 5, 101, api.Result{Cut: 101, Sold: 5000, Awards: []api.Award{award(1, 1, 1, 101), award(2, 1, 4, 100)}}},
		{"the greatest price", []api.Tender{tender(1, 1, 3, 101), tender(2, 1, 4, 100)}, 5, 100, api.Result{Cut: 100, Sold: 4000, Awards: []api.Award{award(2, 1, 4, 100)}}},
		{"all above it", []api.Tender{tender(1, 1, 3, 101), tender(2, 1, 4, 100)}, 5, 99, api.Result{}},
		{"just all at a price", []api.Tender{tender(1, 1, 3, 101), tender(2, 1, 4, 100)}, 4, 101, api.Result{Cut: 100, Sold: 4000, Awards: []api.Award{award(2, 1, 4, 100)}}},
		{"everything", []api.Tender{tender(1, 1, 3, 101), tender(2, 1, 4, 100)}, 50, 200, api.Result{Cut: 101, Sold: 7000, Awards: []api.Award{award(1, 1, 3, 101), award(2, 1, 4, 100)}}},
		{"parts", []api.Tender{tender(3, 1, 5, 99), tender(2, 2, 3, 99), tender(1000, 1, 1, 98), tender(2, 1, 4, 99), tender(1, 1, 5, 99), tender(5, 1, 9, 100)}, 10, 100, api.Result{Cut: 99, Sold: 10000, Awards: []api.Award{award(1, 1, 3, 99), award(2, 1, 2, 99), award(2, 2, 1, 99), award(3, 1, 3, 99), award(1000, 1, 1, 98)}}},
		{"equal parts", []api.Tender{tender(3, 1, 5, 99), tender(2, 2, 5, 99), tender(2, 1, 5, 99)}, 2, 100, api.Result{Cut: 99, Sold: 2000, Awards: []api.Award{award(2, 1, 1, 99), award(2, 2, 1, 99)}}},
		{"the largest", []api.Tender{{Holder: 1, Number: 1, Price: mostPrice, Amount: mostBid}, {Holder: 2, Number: 1, Price: mostPrice, Amount: mostBid}}, mostBid / lot, mostPrice, api.Result{Cut: mostPrice, Sold: mostBid, Awards: []api.Award{{Bidder: 1, Number: 1, Amount: mostBid / 2, Price: mostPrice}, {Bidder: 2, Number: 1, Amount: mostBid / 2, Price: mostPrice}}}},
	} {
		kept := slices.Clone(c.l)
		if got, e := Hold(c.l, lot*c.lots, c.most); e != api.OK || !same(got, c.want) || !slices.Equal(kept, c.l) {
			t.Errorf("%s: %v, error %d, not %v", c.name, got, e, c.want)
		}
	}
	for _, c := range []struct{ amount, most int }{{0, 5}, {999, 5}, {1500, 5}, {-1000, 5}, {mostBid + 1000, 5}, {math.MinInt, 5}, {1000, 0}, {1000, -1}, {1000, mostPrice + 1}} {
		if got, e := Hold(crowd(1), c.amount, c.most); e != api.ErrOffer || !same(got, api.Result{}) {
			t.Errorf("%v: %v, error %d", c, got, e)
		}
	}
	for _, c := range []struct{ amount, most int }{{1000, 1}, {mostBid, mostPrice}} {
		if _, e := Hold(crowd(1), c.amount, c.most); e != api.OK {
			t.Errorf("%v: error %d", c, e)
		}
	}
}

// P38.2

func TestBuy(t *testing.T) {
	r := holds(t, 10, 5, 0, 7)
	kept := fmt.Sprint(r)
	// The holder 2 has less than it tenders altogether, and so has 3, who has nothing. 4 has just all.
	l := []api.Tender{tender(4, 2, 3, 99000), tender(2, 1, 3, 90000), tender(2, 2, 3, 200000), tender(3, 1, 1, 90000), tender(4, 1, 4, 98000), tender(1, 1, 9, 99000)}
	got, paid, e := Buy(r, 1, 190, l, 10*lot, 99000)
	want, cost := r, 0
	for _, a := range []api.Award{award(1, 1, 4, 99000), award(4, 1, 4, 98000), award(4, 2, 2, 99000)} {
		// The lots at 99000 are 9 and 3, of which 6 are bought: 4.5 and 1.5, and the first one gets what is left over.
		if a.Bidder == 1 {
			a.Amount = 5 * lot
		}
		if a.Number == 2 {
			a.Amount = lot
		}
		n, _ := reopening.Cost(bond(1, 500), 190, a.Amount, a.Price)
		cost += n
		want, _ = register.Redeem(want, 190, 1, a.Bidder, a.Amount)
	}
	if e != api.OK || paid != cost || fmt.Sprint(got) != fmt.Sprint(want) || kept != fmt.Sprint(r) {
		t.Errorf("%v, %d, error %d, not %v, %d", got, paid, e, want, cost)
	}
	none, paid, e := Buy(r, 1, -5, l[1:4], 10*lot, 99000)
	if e != api.OK || paid != 0 || fmt.Sprint(none) != kept {
		t.Errorf("nobody has enough: %v, %d, error %d", none, paid, e)
	}
	none.Holdings[0].Amount, none.Moves[0].Amount, none.Securities[0].Unit = -1, -1, -1
	if kept != fmt.Sprint(r) {
		t.Error("memory is shared")
	}
}

func TestErrorsOfBuy(t *testing.T) {
	broken := holds(t, 5)
	broken.Holdings[0].Amount++
	full := holds(t, 5)
	for len(full.Moves) < mostMoves {
		full = issued(t, full, 100, 1, 500)
	}
	short := full
	short.Moves, short.Holdings = full.Moves[:mostMoves-1:mostMoves-1], []api.Holding{{Security: 1, Holder: 1, Amount: full.Holdings[0].Amount - 500}}
	one := []api.Tender{tender(1, 1, 1, 99000)}
	two := append(slices.Clone(one), tender(1, 2, 1, 99000))
	thousand := issued(t, api.Register{Securities: []api.Security{bond(1, 1000)}}, 100, 1, 5000)
	for _, c := range []struct {
		name         string
		r            api.Register
		id, day      int
		l            []api.Tender
		amount, most int
		want         api.Errno
	}{
		{"a broken register", broken, 9, -1, []api.Tender{{}}, 0, 0, api.ErrRegister},
		{"a large register", api.Register{Securities: make([]api.Security, 21)}, 9, -1, nil, 0, 0, api.ErrLimit},
		{"no security", holds(t, 5), 9, -1, []api.Tender{{}}, 0, 0, api.ErrSecurity},
		{"units of 400", holds(t, 5), 2, -1, []api.Tender{{}}, 0, 0, api.ErrUnit},
		{"units of 2000", holds(t, 5), 3, -1, []api.Tender{{}}, 0, 0, api.ErrUnit},
		{"units of 1000", thousand, 1, 100, one, lot, 99000, api.OK},
		{"no tender", holds(t, 5), 1, -1, []api.Tender{{}}, 0, 0, api.ErrTender},
		{"61 tenders", holds(t, 5), 1, -1, crowd(mostTenders + 1), 0, 0, api.ErrLimit},
		{"a tender twice of one who has nothing", holds(t, 5), 1, -1, []api.Tender{tender(9, 1, 1, 1), tender(9, 1, 1, 1)}, 0, 0, api.ErrDuplicate},
		{"no offer", holds(t, 5), 1, -1, one, 0, 99000, api.ErrOffer},
		{"no price", holds(t, 5), 1, -1, one, lot, 0, api.ErrOffer},
		{"before the issue", holds(t, 5), 1, 99, one, lot, 99000, api.ErrOrder},
		{"behind the maturity", holds(t, 5), 1, 821, one, lot, 99000, api.ErrOrder},
		{"the maturity", holds(t, 5), 1, 820, one, lot, 99000, api.OK},
		{"before the last move", issued(t, holds(t, 5), 200, 1, 500), 1, 190, one, lot, 99000, api.ErrOrder},
		{"full", full, 1, 100, one, lot, 99000, api.ErrLimit},
		{"one more move", short, 1, 100, one, lot, 99000, api.OK},
		{"two more moves", short, 1, 100, two, 2 * lot, 99000, api.ErrLimit},
		{"nothing to buy in a full one", full, 1, 99, one, lot, 98999, api.OK},
	} {
		kept := fmt.Sprint(c.r)
		got, paid, e := Buy(c.r, c.id, c.day, c.l, c.amount, c.most)
		if e != c.want || e != api.OK && (fmt.Sprint(got) != fmt.Sprint(api.Register{}) || paid != 0) || kept != fmt.Sprint(c.r) {
			t.Errorf("%s: %d, error %d, not %d", c.name, paid, e, c.want)
		}
	}
}

// P38.3

func TestSaved(t *testing.T) {
	r := holds(t, 5)
	bill := api.Security{ID: 5, Unit: 1, Issued: 0, Maturity: 720}
	monthly := api.Security{ID: 6, Unit: 1, Issued: 0, Maturity: 18000, Rate: 12000, Every: 1}
	r, _ = register.Add(r, bill)
	r, _ = register.Add(r, monthly)
	// The coupon days of 1 are 280, 460, 640 and 820.
	for _, c := range []struct{ id, day, years, want int }{
		{1, 100, 1, 5000}, {1, 100, 2, 10000}, {1, 100, 0, 0}, {1, 100, 60, 10000}, {1, 280, 1, 5000}, {1, 279, 1, 5000}, {1, 281, 1, 5000}, {1, 640, 1, 2500}, {1, 639, 1, 5000}, {1, 820, 5, 0}, {1, 459, 1, 5000}, {1, 460, 1, 5000}, {1, 461, 1, 5000 - 0}, {1, 0, 1, 2500}, {1, lastDay, 60, 0},
		{5, 0, 60, 0}, {6, 0, 60, 600000}, {6, 0, 1, 12000}, {6, 29, 1, 12000}, {6, 17990, 1, 1000},
		{4, 100, 1, 0}, {0, 100, 1, 0}, {1, -1, 1, 0}, {1, lastDay + 1, 1, 0}, {1, 100, -1, 0}, {1, 100, mostYears + 1, 0}, {6, -1, 60, 0}, {6, 0, math.MaxInt, 0}, {6, math.MinInt, 5, 0},
	} {
		if got := Saved(r, c.id, c.day, c.years); got != c.want {
			t.Errorf("%v: %d", c, got)
		}
	}
	r.Holdings[0].Amount++
	if got := Saved(r, 1, 100, 2); got != 0 {
		t.Errorf("%d of a broken register", got)
	}
}

// The consequences

func TestRandomBuybacks(t *testing.T) {
	r := rand.New(rand.NewSource(381))
	for range 2000 {
		var l []api.Tender
		for i := range r.Intn(9) {
			l = append(l, tender(1+i/2, 1+i%2, 1+r.Intn(12), 1+r.Intn(9)))
		}
		lots, most := 1+r.Intn(40), 1+r.Intn(9)
		got, e := Hold(l, lot*lots, most)
		if e != api.OK {
			t.Fatalf("error %d", e)
		}
		mixed := slices.Clone(l)
		r.Shuffle(len(mixed), func(i, j int) { mixed[i], mixed[j] = mixed[j], mixed[i] })
		if again, _ := Hold(mixed, lot*lots, most); !same(got, again) {
			t.Fatalf("%v, not %v", again, got)
		}
		sold, wanted := 0, 0
		for _, x := range l {
			given := 0
			for _, a := range got.Awards {
				if a.Bidder == x.Holder && a.Number == x.Number {
					given = a.Amount
					if a.Price != x.Price {
						t.Fatalf("%v for %v", a, x)
					}
				}
			}
			sold += given
			if x.Price <= most {
				wanted += x.Amount
			}
			if given > x.Amount || given%lot != 0 || given > 0 && x.Price > got.Cut || given < x.Amount && x.Price < got.Cut {
				t.Fatalf("%d of %v in %v", given, x, got)
			}
		}
		if sold != got.Sold || sold != min(wanted, lot*lots) || got.Cut > most {
			t.Fatalf("%d of %d up to %d: %v", sold, wanted, lot*lots, got)
		}
		reg := holds(t, 8, 8, 8, 8, 8)
		next, paid, e := Buy(reg, 1, 300, l, lot*lots, most)
		if e != api.OK || register.Outstanding(next, 1) > register.Outstanding(reg, 1) || (paid > 0) != (register.Outstanding(next, 1) < register.Outstanding(reg, 1)) {
			t.Fatalf("%d, error %d", paid, e)
		}
	}
}
