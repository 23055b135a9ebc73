package risk

import (
	"fmt"
	"math"
	"math/rand"
	"slices"
	"testing"

	"treasury/api"
	"treasury/coupon"
	"treasury/register"
)

// The limits are written out here as the document has them, so that a wrong one shows.
const (
	mostAmount = 1000000000000
	mostRate   = 20000
	mostYears  = 60
	lastDay    = 36000
	par        = 100000
)

// bond is a security with a coupon each year of some rate, from the day 0 on for some years.
func bond(id, years, rate int) api.Security {
	return api.Security{ID: id, Unit: 1, Maturity: 360 * years, Rate: rate, Every: 12}
}

// bill is a security without coupons that falls due in year 1.
func bill(id int) api.Security { return api.Security{ID: id, Unit: 1, Maturity: 360} }

// holds is a register with securities, of which the holder 7 has some amounts.
func holds(t *testing.T, l []api.Security, amounts ...int) api.Register {
	t.Helper()
	var r api.Register
	e := api.OK
	for _, s := range l {
		if r, e = register.Add(r, s); e != api.OK {
			t.Fatalf("error %d", e)
		}
	}
	for i, amount := range amounts {
		if r, e = register.Issue(r, 0, l[i].ID, 7, amount); e != api.OK {
			t.Fatalf("error %d", e)
		}
	}
	return r
}

func service(year, interest, principal, debt int) api.Service {
	return api.Service{Year: year, Interest: interest, Principal: principal, Debt: debt}
}

// P39.1

func TestPath(t *testing.T) {
	for _, l := range [][]int{{0}, {mostRate}, {5, 6, 7}, make([]int, mostYears)} {
		if !Path(l) {
			t.Errorf("%v", l)
		}
	}
	r := holds(t, []api.Security{bill(1)}, 5)
	for _, l := range [][]int{nil, {}, make([]int, mostYears+1), {-1}, {5, mostRate + 1}, {math.MinInt, 5}, {5, math.MaxInt}} {
		if Path(l) {
			t.Errorf("%v", l)
		}
		for _, first := range []int{-1, 0} {
			if got, e := Project(r, first, l); e != api.ErrPath || len(got) > 0 {
				t.Errorf("%v: %v, error %d", l, got, e)
			}
			if got, e := Cost(r, first, l, mostRate+1); e != api.ErrPath || got != 0 {
				t.Errorf("%v: %d, error %d", l, got, e)
			}
		}
	}
}

func TestProject(t *testing.T) {
	example := holds(t, []api.Security{bill(1)}, 100000)
	mixed := holds(t, []api.Security{bond(1, 2, 5000), bond(2, 4, 8000), bill(3)}, 1000, 2000, 300)
	for _, c := range []struct {
		name  string
		r     api.Register
		first int
		rates []int
		want  []api.Service
	}{
		{"the example", example, 1, []int{5000, 6000}, []api.Service{service(1, 0, 100000, 100000), service(2, 5000, 100000, 100000)}},
		{"three years", example, 1, []int{5000, 6000, 0}, []api.Service{service(1, 0, 100000, 100000), service(2, 5000, 100000, 100000), service(3, 6000, 100000, 100000)}},
		{"ahead", example, 0, []int{5000, 6000, 0}, []api.Service{service(0, 0, 0, 100000), service(1, 0, 100000, 100000), service(2, 6000, 100000, 100000)}},
		{"behind", example, 2, []int{5000, 6000}, []api.Service{service(2, 0, 0, 0), service(3, 0, 0, 0)}},
		{"the last years", example, 100, []int{5000, 6000}, []api.Service{service(100, 0, 0, 0), service(101, 0, 0, 0)}},
		{"nothing", api.Register{}, 0, []int{7}, []api.Service{service(0, 0, 0, 0)}},
		{"several", mixed, 0, []int{1000, 2000, 3000, 4000, 5000, 6000}, []api.Service{
			service(0, 0, 0, 3300), service(1, 50+160, 300, 3300), service(2, 50+160+6, 1000+300, 3300), service(3, 160+39, 1300, 3300), service(4, 160+52, 2000+1300, 3300), service(5, 165, 3300, 3300),
		}},
		{"several from year 2 on", mixed, 2, []int{3000, 4000}, []api.Service{service(2, 50+160, 1000, 3000), service(3, 160+30, 1000, 3000)}},
		{"rounded", holds(t, []api.Security{bill(1)}, 150), 1, []int{1000, 999, 1}, []api.Service{service(1, 0, 150, 150), service(2, 2, 150, 150), service(3, 1, 150, 150)}},
		{"the largest", holds(t, []api.Security{bond(1, 1, mostRate)}, mostAmount), 1, []int{mostRate, mostRate}, []api.Service{service(1, mostAmount/5, mostAmount, mostAmount), service(2, mostAmount/5, mostAmount, mostAmount)}},
	} {
		kept := fmt.Sprint(c.r)
		if got, e := Project(c.r, c.first, c.rates); e != api.OK || !slices.Equal(got, c.want) || kept != fmt.Sprint(c.r) {
			t.Errorf("%s: %v, error %d, not %v", c.name, got, e, c.want)
		}
	}
	// The coupons of each holding are rounded by themselves, and several lie in a year.
	quarterly := api.Security{ID: 1, Unit: 1, Issued: 100, Maturity: 100 + 720, Rate: 2000, Every: 3}
	r := api.Register{Securities: []api.Security{quarterly}}
	for holder := 1; holder <= 3; holder++ {
		r, _ = register.Issue(r, 100, 1, holder, 100)
	}
	// The coupons of 0.5 are on 190, 280, 370, 460, 550, 640, 730 and 820.
	if got, e := Project(r, 0, []int{0, 0, 0}); e != api.OK || !slices.Equal(got, []api.Service{service(0, 6, 0, 300), service(1, 12, 0, 300), service(2, 6, 300, 300)}) {
		t.Errorf("%v, error %d", got, e)
	}
}

func TestErrors(t *testing.T) {
	r := holds(t, []api.Security{bill(1)}, 5)
	broken := holds(t, []api.Security{bill(1)}, 5)
	broken.Holdings[0].Amount++
	large := api.Register{Securities: make([]api.Security, 21)}
	for _, c := range []struct {
		r           api.Register
		first, want int
	}{{broken, -1, int(api.ErrRegister)}, {large, -1, int(api.ErrLimit)}, {r, -1, int(api.ErrRange)}, {r, 101, int(api.ErrRange)}, {r, math.MinInt, int(api.ErrRange)}, {r, math.MaxInt, int(api.ErrRange)}} {
		want := api.Errno(c.want)
		if got, e := Project(c.r, c.first, []int{5}); e != want || len(got) > 0 {
			t.Errorf("%d: %v, error %d, not %d", c.first, got, e, want)
		}
		if got, e := Falls(c.r, c.first, 5); e != want || len(got) > 0 {
			t.Errorf("%d: %v, error %d, not %d", c.first, got, e, want)
		}
		if year, percent, e := Greatest(c.r, c.first, 5); e != want || year != 0 || percent != 0 {
			t.Errorf("%d: %d, %d, error %d, not %d", c.first, year, percent, e, want)
		}
		if got, e := Cost(c.r, c.first, []int{5}, mostRate+1); e != want || got != 0 {
			t.Errorf("%d: %d, error %d, not %d", c.first, got, e, want)
		}
		if c.first == -1 {
			if num, den, e := Term(c.r, -1); e != want || num != 0 || den != 0 {
				t.Errorf("%d, %d, error %d, not %d", num, den, e, want)
			}
		}
	}
	if _, e := Project(broken, 0, nil); e != api.ErrRegister {
		t.Errorf("error %d", e)
	}
	for _, years := range []int{0, -1, mostYears + 1, math.MaxInt, math.MinInt} {
		if got, e := Falls(r, 0, years); e != api.ErrRange || len(got) > 0 {
			t.Errorf("%d years: %v, error %d", years, got, e)
		}
		if year, percent, e := Greatest(r, 0, years); e != api.ErrRange || year != 0 || percent != 0 {
			t.Errorf("%d years: %d, %d, error %d", years, year, percent, e)
		}
	}
	for _, day := range []int{lastDay + 1, math.MaxInt, math.MinInt} {
		if num, den, e := Term(r, day); e != api.ErrRange || num != 0 || den != 0 {
			t.Errorf("day %d: %d, %d, error %d", day, num, den, e)
		}
	}
	if _, e := Project(r, 100, make([]int, mostYears)); e != api.OK {
		t.Errorf("error %d", e)
	}
}

// P39.2

func TestTerm(t *testing.T) {
	r := holds(t, []api.Security{bond(1, 2, 5000), bond(2, 4, 8000), bill(3)}, 1000, 2000, 300)
	for _, c := range [][3]int{{0, 1000*720 + 2000*1440 + 300*360, 3300}, {359, 1000*361 + 2000*1081 + 300, 3300}, {360, 1000*360 + 2000*1080, 3000}, {720, 2000 * 720, 2000}, {1439, 2000, 2000}, {1440, 0, 0}, {lastDay, 0, 0}} {
		if num, den, e := Term(r, c[0]); e != api.OK || num != c[1] || den != c[2] {
			t.Errorf("%v: %d, %d, error %d", c, num, den, e)
		}
	}
}

func TestFallsAndGreatest(t *testing.T) {
	r := holds(t, []api.Security{bond(1, 2, 5000), bond(2, 4, 8000), bill(3), bond(4, 2, 1)}, 1000, 2000, 300, 1000)
	for _, c := range []struct {
		first, years  int
		falls         []int
		year, percent int
	}{
		{0, 6, []int{0, 300, 2000, 0, 2000, 0}, 2, 46}, {0, 1, []int{0}, 0, 0}, {1, 1, []int{300}, 1, 6}, {3, 2, []int{0, 2000}, 4, 46}, {5, 3, []int{0, 0, 0}, 0, 0}, {100, 2, []int{0, 0}, 0, 0}, {2, 1, []int{2000}, 2, 46},
	} {
		if got, e := Falls(r, c.first, c.years); e != api.OK || !slices.Equal(got, c.falls) {
			t.Errorf("%d years from %d on: %v, error %d", c.years, c.first, got, e)
		}
		if year, percent, e := Greatest(r, c.first, c.years); e != api.OK || year != c.year || percent != c.percent {
			t.Errorf("%d years from %d on: %d, %d, error %d", c.years, c.first, year, percent, e)
		}
	}
	// The last day of a year is in it.
	edge := api.Security{ID: 1, Unit: 1, Issued: 29, Maturity: 719}
	if got, _ := Falls(holds(t, nil), 0, 3); !slices.Equal(got, []int{0, 0, 0}) {
		t.Errorf("%v", got)
	}
	reg, e := register.Issue(api.Register{Securities: []api.Security{edge}}, 29, 1, 7, 5)
	if e != api.OK {
		t.Fatalf("error %d", e)
	}
	if year, percent, _ := Greatest(reg, 0, mostYears); year != 1 || percent != 100 {
		t.Errorf("%d, %d", year, percent)
	}
	one := holds(t, []api.Security{bill(1), bond(2, 2, 1)}, 1, 999)
	if year, percent, e := Greatest(one, 1, 1); e != api.OK || year != 1 || percent != 0 {
		t.Errorf("%d, %d, error %d", year, percent, e)
	}
}

// P39.3

func TestShifted(t *testing.T) {
	l := []int{0, 5, mostRate, 10000, -1, mostRate + 1, math.MinInt, math.MaxInt}
	for by, want := range map[int][]int{
		0: {0, 5, mostRate, 10000}, 7: {7, 12, mostRate, 10007}, -7: {0, 0, mostRate - 7, 9993}, mostRate: {mostRate, mostRate, mostRate, mostRate}, -mostRate: {0, 0, 0, 0},
		-5: {0, 0, mostRate - 5, 9995}, math.MaxInt: {mostRate, mostRate, mostRate, mostRate}, math.MinInt: {0, 0, 0, 0}, mostRate + 1: {mostRate, mostRate, mostRate, mostRate},
	} {
		kept := slices.Clone(l)
		if got := Shifted(l, by); !slices.Equal(got, append(want, l[4:]...)) || !slices.Equal(kept, l) {
			t.Errorf("by %d: %v, not %v", by, got, want)
		}
	}
	if got := Shifted(nil, 5); len(got) > 0 {
		t.Errorf("%v", got)
	}
}

func TestCost(t *testing.T) {
	r := holds(t, []api.Security{bill(1)}, 100000)
	for _, c := range []struct{ first, by, want int }{{1, 0, 0}, {1, 1000, 2000}, {1, -1000, -2000}, {1, mostRate, 15000 + 14000}, {1, -mostRate, -11000}, {0, 1000, 1000}, {2, 1000, 0}} {
		if got, e := Cost(r, c.first, []int{5000, 6000, 7000}, c.by); e != api.OK || got != c.want {
			t.Errorf("%v: %d, error %d", c, got, e)
		}
	}
	for _, by := range []int{mostRate + 1, -mostRate - 1, math.MinInt, math.MaxInt} {
		if got, e := Cost(r, 1, []int{5000}, by); e != api.ErrRange || got != 0 {
			t.Errorf("by %d: %d, error %d", by, got, e)
		}
	}
}

// The consequences

func TestRandomRisks(t *testing.T) {
	r := rand.New(rand.NewSource(391))
	for range 300 {
		var l []api.Security
		var amounts []int
		for id := range 1 + r.Intn(4) {
			l = append(l, bond(id+1, 1+r.Intn(6), r.Intn(mostRate)))
			amounts = append(amounts, 1+r.Intn(5000))
		}
		reg := holds(t, l, amounts...)
		rates := make([]int, 1+r.Intn(10))
		for i := range rates {
			rates[i] = r.Intn(mostRate)
		}
		first := r.Intn(2)
		got, e := Project(reg, first, rates)
		if e != api.OK {
			t.Fatalf("error %d", e)
		}
		raised := 0
		for i, x := range got {
			interest, principal := 0, raised
			for k, s := range l {
				for _, day := range coupon.Days(s) {
					if day/360 == x.Year {
						n, _ := coupon.Coupon(s, amounts[k])
						interest += n
					}
				}
				if s.Maturity/360 == x.Year {
					principal += amounts[k]
				}
			}
			if i > 0 {
				interest += int(math.Round(float64(raised*rates[i-1]) / par))
			}
			if x.Year != first+i || x.Interest != interest || x.Principal != principal || x.Debt != register.Debt(reg) {
				t.Fatalf("%v, not %d and %d", x, interest, principal)
			}
			raised = principal
		}
		by := r.Intn(mostRate)
		more, _ := Cost(reg, first, rates, by)
		less, _ := Cost(reg, first, rates, -by)
		if more < 0 || less > 0 {
			t.Fatalf("%d and %d", more, less)
		}
	}
}
