package liquidity

import (
	"math"
	"math/rand"
	"slices"
	"testing"

	"treasury/api"
)

// The limits are written out here as the document has them, so that a wrong one shows.
const (
	mostAmount = 1000000000000
	mostTotal  = 1000000000000000
	mostDays   = 1000
	mostRate   = 20000
	lastDay    = 36000
)

// example is the band from 0 to 10 in lots of 4.
var example = api.Band{Low: 0, High: 10, Lot: 4, MaxRaise: 40, MaxPlace: 20}

func at(day, amount int) api.Position { return api.Position{Day: day, Amount: amount} }

func plan(day, raise, place int) api.Plan { return api.Plan{Day: day, Raise: raise, Place: place} }

// P30.1

func TestCheck(t *testing.T) {
	for _, b := range []api.Band{example, {Low: -mostAmount, High: mostAmount, Lot: mostAmount, MaxRaise: mostAmount, MaxPlace: mostAmount}, {Lot: 1}, {Low: mostAmount, High: mostAmount, Lot: 1}, {Low: -mostAmount, High: -mostAmount, Lot: 1}} {
		if e := Check(b); e != api.OK {
			t.Errorf("%v: error %d", b, e)
		}
	}
	for i, change := range []func(b *api.Band){
		func(b *api.Band) { b.Low = -mostAmount - 1 }, func(b *api.Band) { b.Low = 11 }, func(b *api.Band) { b.High = mostAmount + 1 },
		func(b *api.Band) { b.Lot = 0 }, func(b *api.Band) { b.Lot = -1 }, func(b *api.Band) { b.Lot = mostAmount + 1 },
		func(b *api.Band) { b.MaxRaise = -1 }, func(b *api.Band) { b.MaxRaise = mostAmount + 1 },
		func(b *api.Band) { b.MaxPlace = -1 }, func(b *api.Band) { b.MaxPlace = mostAmount + 1 },
		func(b *api.Band) { *b = api.Band{} }, func(b *api.Band) { b.Low = math.MinInt }, func(b *api.Band) { b.High = math.MaxInt },
	} {
		b := example
		change(&b)
		if e := Check(b); e != api.ErrBand {
			t.Errorf("%d: error %d", i, e)
		}
		if raise, place, ok := Decide(b, 5); raise != 0 || place != 0 || ok {
			t.Errorf("%d, Decide: %d, %d, %v", i, raise, place, ok)
		}
		for _, l := range [][]api.Position{nil, {at(0, math.MaxInt)}, {at(5, 5)}} {
			if plans, day, e := Make(b, l); len(plans) > 0 || day != -1 || e != api.ErrBand {
				t.Errorf("%d, Make: %v, %d, error %d", i, plans, day, e)
			}
		}
		if Right(b, nil, nil) || Right(b, []api.Position{at(5, 5)}, nil) {
			t.Errorf("%d: right", i)
		}
	}
}

func TestDecide(t *testing.T) {
	tight := api.Band{Low: 3, High: 5, Lot: 4, MaxRaise: 8, MaxPlace: 8}
	wide := api.Band{Low: -mostAmount, High: mostAmount, Lot: mostAmount, MaxRaise: mostAmount, MaxPlace: mostAmount}
	for _, c := range []struct {
		b                    api.Band
		amount, raise, place int
		ok                   bool
	}{
		{example, -5, 8, 0, true}, {example, 15, 0, 8, true}, {example, 0, 0, 0, true}, {example, 10, 0, 0, true}, {example, 5, 0, 0, true},
		{example, -1, 4, 0, true}, {example, -4, 4, 0, true}, {example, 11, 0, 4, true}, {example, 14, 0, 4, true},
		{example, -40, 40, 0, true}, {example, -41, 0, 0, false}, {example, 30, 0, 20, true}, {example, 31, 0, 0, false},
		{tight, 2, 0, 0, false}, {tight, 1, 4, 0, true}, {tight, 0, 4, 0, true}, {tight, -1, 4, 0, true}, {tight, -2, 0, 0, false}, {tight, -3, 8, 0, true}, {tight, -5, 8, 0, true}, {tight, -6, 0, 0, false}, {tight, -7, 0, 0, false},
		{tight, 6, 0, 0, false}, {tight, 7, 0, 4, true}, {tight, 9, 0, 4, true}, {tight, 10, 0, 0, false}, {tight, 11, 0, 8, true}, {tight, 13, 0, 8, true}, {tight, 14, 0, 0, false}, {tight, 15, 0, 0, false},
		{wide, 2 * mostAmount, 0, mostAmount, true}, {wide, 2*mostAmount + 1, 0, 0, false}, {wide, -2 * mostAmount, mostAmount, 0, true}, {wide, -2*mostAmount - 1, 0, 0, false},
		{api.Band{Lot: 4, MaxRaise: 7, MaxPlace: 7}, -8, 0, 0, false}, {api.Band{Lot: 4, MaxRaise: 8, MaxPlace: 7}, -8, 8, 0, true},
		{example, mostTotal, 0, 0, false}, {example, -mostTotal, 0, 0, false}, {example, mostTotal + 1, 0, 0, false}, {example, math.MinInt, 0, 0, false}, {example, math.MaxInt, 0, 0, false},
		{api.Band{Low: -mostAmount, High: mostAmount, Lot: 1, MaxRaise: 5, MaxPlace: 5}, 0, 0, 0, true},
	} {
		raise, place, ok := Decide(c.b, c.amount)
		if raise != c.raise || place != c.place || ok != c.ok {
			t.Errorf("%v, %d: %d, %d, %v", c.b, c.amount, raise, place, ok)
		}
	}
}

// P30.2

func TestMake(t *testing.T) {
	for _, c := range []struct {
		l    []api.Position
		want []api.Plan
	}{
		{nil, nil},
		{[]api.Position{at(0, 5), at(lastDay, 10)}, nil},
		{[]api.Position{at(2, -5), at(3, 5), at(9, 15), at(11, -1)}, []api.Plan{plan(2, 8, 0), plan(9, 0, 8), plan(11, 4, 0)}},
	} {
		got, day, e := Make(example, c.l)
		if e != api.OK || day != -1 || !slices.Equal(got, c.want) || !Right(example, c.l, got) {
			t.Errorf("%v: %v, %d, error %d", c.l, got, day, e)
		}
	}
	many := make([]api.Position, mostDays+1)
	for i := range many {
		many[i] = at(i, 0)
	}
	for _, c := range []struct {
		name string
		l    []api.Position
		day  int
		want api.Errno
	}{
		{"the first one", []api.Position{at(2, -50), at(3, 100)}, 2, api.ErrNone},
		{"the second one", []api.Position{at(2, -5), at(3, 100), at(4, -100)}, 3, api.ErrNone},
		{"day 0", []api.Position{at(0, 100)}, 0, api.ErrNone},
		{"no total", []api.Position{at(2, -50), at(3, mostTotal+1)}, -1, api.ErrRange},
		{"no total below", []api.Position{at(2, -mostTotal-1), at(2, 0)}, -1, api.ErrRange},
		{"a total", []api.Position{at(2, -mostTotal)}, 2, api.ErrNone},
		{"twice", []api.Position{at(2, -50), at(2, 0)}, -1, api.ErrOrder},
		{"descending", []api.Position{at(2, -5), at(1, 0)}, -1, api.ErrOrder},
		{"before day 0", []api.Position{at(-1, -5)}, -1, api.ErrOrder},
		{"behind the last day", []api.Position{at(lastDay+1, -5)}, -1, api.ErrOrder},
		{"1001", many, -1, api.ErrLimit},
		{"1000", many[:mostDays], -1, api.OK},
		{"1001 of a day", make([]api.Position, mostDays+1), -1, api.ErrOrder},
		{"1001 that are not enough", append(slices.Clone(many[:mostDays]), at(2000, -100)), -1, api.ErrLimit},
	} {
		got, day, e := Make(example, c.l)
		if e != c.want || day != c.day || len(got) > 0 {
			t.Errorf("%s: %v, %d, error %d, not %d", c.name, got, day, e, c.want)
		}
		if Right(example, c.l, nil) != (e == api.OK) {
			t.Errorf("%s: right", c.name)
		}
	}
}

// P30.3

func TestApply(t *testing.T) {
	l := []api.Position{at(2, -5), at(3, 5), at(9, 15)}
	for _, c := range []struct {
		plans []api.Plan
		want  []api.Position
	}{
		{nil, l},
		{[]api.Plan{plan(2, 8, 0), plan(9, 0, 8)}, []api.Position{at(2, 3), at(3, 5), at(9, 7)}},
		{[]api.Plan{plan(3, 7, 9)}, []api.Position{at(2, -5), at(3, 3), at(9, 15)}},
		{[]api.Plan{plan(2, 0, 0), plan(3, mostAmount, 0), plan(9, 0, mostAmount)}, []api.Position{at(2, -5), at(3, mostAmount+5), at(9, 15-mostAmount)}},
	} {
		kept := slices.Clone(l)
		got, e := Apply(l, c.plans)
		if e != api.OK || !slices.Equal(got, c.want) {
			t.Errorf("%v: %v, error %d", c.plans, got, e)
		}
		got[0].Amount = -999
		if !slices.Equal(kept, l) {
			t.Fatalf("%v: an argument was changed", c.plans)
		}
	}
	for _, c := range []struct {
		name  string
		l     []api.Position
		plans []api.Plan
		want  api.Errno
	}{
		{"no total", []api.Position{at(2, mostTotal+1)}, nil, api.ErrRange},
		{"no total, and no order", []api.Position{at(2, -mostTotal-1), at(2, 5)}, nil, api.ErrRange},
		{"a raise", l, []api.Plan{plan(2, -1, 0)}, api.ErrRange},
		{"too great a raise", l, []api.Plan{plan(2, mostAmount+1, 0)}, api.ErrRange},
		{"a place", l, []api.Plan{plan(2, 0, -1)}, api.ErrRange},
		{"too great a place, not in order", l, []api.Plan{plan(2, 0, 1), plan(2, 0, mostAmount+1)}, api.ErrRange},
		{"positions twice", []api.Position{at(2, 5), at(2, 5)}, nil, api.ErrOrder},
		{"positions descending", []api.Position{at(2, 5), at(1, 5)}, nil, api.ErrOrder},
		{"before day 0", []api.Position{at(-1, 5)}, nil, api.ErrOrder},
		{"behind the last day", []api.Position{at(lastDay+1, 5)}, nil, api.ErrOrder},
		{"plans twice", l, []api.Plan{plan(2, 1, 0), plan(2, 1, 0)}, api.ErrOrder},
		{"plans descending", l, []api.Plan{plan(3, 1, 0), plan(2, 1, 0)}, api.ErrOrder},
		{"a plan without a position", l, []api.Plan{plan(4, 1, 0)}, api.ErrOrder},
		{"a plan behind all positions", l, []api.Plan{plan(10, 1, 0)}, api.ErrOrder},
		{"a plan on no day", l, []api.Plan{plan(-1, 1, 0)}, api.ErrOrder},
		{"a plan without positions", nil, []api.Plan{plan(1, 1, 0)}, api.ErrOrder},
		{"too much", []api.Position{at(2, mostTotal)}, []api.Plan{plan(2, 1, 0)}, api.ErrRange},
		{"too little", []api.Position{at(2, -mostTotal)}, []api.Plan{plan(2, 0, 1)}, api.ErrRange},
		{"just enough", []api.Position{at(2, mostTotal)}, []api.Plan{plan(2, 1, 1)}, api.OK},
		{"the ends", []api.Position{at(0, 0), at(lastDay, 0)}, []api.Plan{plan(0, 1, 1), plan(lastDay, 1, 1)}, api.OK},
	} {
		got, e := Apply(c.l, c.plans)
		if e != c.want || (len(got) > 0) != (e == api.OK) {
			t.Errorf("%s: %v, error %d, not %d", c.name, got, e, c.want)
		}
	}
	all := make([]api.Position, lastDay+1)
	plans := make([]api.Plan, lastDay+1)
	for i := range all {
		all[i], plans[i] = at(i, 1), plan(i, i, 0)
	}
	if got, e := Apply(all, plans); e != api.OK || got[lastDay] != at(lastDay, lastDay+1) {
		t.Errorf("all days: error %d", e)
	}
}

func TestRight(t *testing.T) {
	l := []api.Position{at(2, -5), at(3, 5), at(9, 15), at(11, 0)}
	for _, c := range []struct {
		name  string
		plans []api.Plan
		want  bool
	}{
		{"the least", []api.Plan{plan(2, 8, 0), plan(9, 0, 8)}, true},
		{"more", []api.Plan{plan(2, 12, 0), plan(9, 0, 12)}, true},
		{"one that is not needed", []api.Plan{plan(2, 12, 0), plan(3, 4, 0), plan(9, 0, 12)}, true},
		{"one of nothing", []api.Plan{plan(2, 8, 0), plan(3, 0, 0), plan(9, 0, 8)}, false},
		{"too little", []api.Plan{plan(2, 4, 0), plan(9, 0, 8)}, false},
		{"too much", []api.Plan{plan(2, 16, 0), plan(9, 0, 8)}, false},
		{"too much placed", []api.Plan{plan(2, 8, 0), plan(9, 0, 16)}, false},
		{"no lots", []api.Plan{plan(2, 7, 0), plan(9, 0, 8)}, false},
		{"no lots placed", []api.Plan{plan(2, 8, 0), plan(9, 0, 7)}, false},
		{"both", []api.Plan{plan(2, 12, 4), plan(9, 0, 8)}, false},
		{"below 0", []api.Plan{plan(2, 0, -8), plan(9, 0, 8)}, false},
		{"raised below 0", []api.Plan{plan(2, 8, 0), plan(9, -8, 0)}, false},
		{"one missing", []api.Plan{plan(2, 8, 0)}, false},
		{"the first one missing", []api.Plan{plan(9, 0, 8)}, false},
		{"none", nil, false},
		{"out of order", []api.Plan{plan(9, 0, 8), plan(2, 8, 0)}, false},
		{"twice", []api.Plan{plan(2, 8, 0), plan(2, 8, 0), plan(9, 0, 8)}, false},
		{"on another day", []api.Plan{plan(2, 8, 0), plan(9, 0, 8), plan(10, 0, 8)}, false},
		{"on no day", []api.Plan{plan(-1, 8, 0), plan(2, 8, 0), plan(9, 0, 8)}, false},
		{"extreme", []api.Plan{plan(2, math.MaxInt, math.MinInt), plan(9, 0, 8)}, false},
	} {
		if got := Right(example, l, c.plans); got != c.want {
			t.Errorf("%s: %v", c.name, got)
		}
	}
	small := example
	small.MaxRaise = 7
	if Right(small, l[:1], []api.Plan{plan(2, 8, 0)}) {
		t.Error("more than can be raised")
	}
	small = example
	small.MaxPlace = 7
	if Right(small, l[2:3], []api.Plan{plan(9, 0, 8)}) {
		t.Error("more than can be placed")
	}
	if !Right(example, nil, nil) {
		t.Error("nothing")
	}
}

func TestInterest(t *testing.T) {
	for _, c := range []struct {
		plans          []api.Plan
		raised, placed int
		want           int
	}{
		{nil, 0, 0, 0},
		{[]api.Plan{plan(5, 36000000, 0)}, 5000, 3000, 5000},
		{[]api.Plan{plan(5, 0, 36000000)}, 5000, 3000, -3000},
		{[]api.Plan{plan(5, 36000000, 72000000), plan(1, 36000000, 0)}, 5000, 3000, 4000},
		{[]api.Plan{plan(5, 18000, 0)}, 1000, 0, 1}, {[]api.Plan{plan(5, 17999, 0)}, 1000, 0, 0}, {[]api.Plan{plan(5, 53999, 0)}, 1000, 0, 1}, {[]api.Plan{plan(5, 54000, 0)}, 1000, 0, 2},
		{[]api.Plan{plan(5, 0, 18000)}, 0, 1000, -1}, {[]api.Plan{plan(5, 0, 17999)}, 0, 1000, 0},
		{[]api.Plan{plan(5, 18000, 0), plan(5, 18000, 0)}, 1000, 0, 2},
		{slices.Repeat([]api.Plan{plan(-7, mostAmount, 0)}, mostDays), mostRate, mostRate, 555555556 * mostDays},
	} {
		if got, e := Interest(c.plans, c.raised, c.placed); e != api.OK || got != c.want {
			t.Errorf("%v: %d, error %d, not %d", c.plans, got, e, c.want)
		}
	}
	for _, c := range []struct {
		plans          []api.Plan
		raised, placed int
		want           api.Errno
	}{
		{make([]api.Plan, mostDays+1), -1, -1, api.ErrLimit}, {make([]api.Plan, mostDays), -1, 0, api.ErrRange},
		{nil, -1, 0, api.ErrRange}, {nil, mostRate + 1, 0, api.ErrRange}, {nil, 0, -1, api.ErrRange}, {nil, 0, mostRate + 1, api.ErrRange},
		{[]api.Plan{plan(0, -1, 0)}, 0, 0, api.ErrRange}, {[]api.Plan{plan(0, mostAmount+1, 0)}, 0, 0, api.ErrRange}, {[]api.Plan{plan(0, 0, -1)}, 0, 0, api.ErrRange}, {[]api.Plan{plan(0, 0, mostAmount+1)}, 0, 0, api.ErrRange},
	} {
		if got, e := Interest(c.plans, c.raised, c.placed); e != c.want || got != 0 {
			t.Errorf("%d, %d: %d, error %d, not %d", c.raised, c.placed, got, e, c.want)
		}
	}
}

// The consequences, and P1

func TestRandomBands(t *testing.T) {
	r := rand.New(rand.NewSource(301))
	for range 3000 {
		low := r.Intn(20) - 10
		b := api.Band{Low: low, High: low + r.Intn(12), Lot: 1 + r.Intn(6), MaxRaise: r.Intn(20), MaxPlace: r.Intn(20)}
		var l []api.Position
		for i := range r.Intn(4) {
			l = append(l, at(10*i, r.Intn(60)-30))
		}
		plans, day, e := Make(b, l)
		var want []api.Plan
		wantDay := -1
		for _, x := range l {
			raise, place, ok := least(b, x.Amount)
			if !ok && wantDay < 0 {
				wantDay = x.Day
			}
			if raise+place > 0 {
				want = append(want, plan(x.Day, raise, place))
			}
		}
		if wantDay >= 0 {
			want = nil
		}
		if day != wantDay || !slices.Equal(plans, want) || (e == api.OK) != (wantDay < 0) {
			t.Fatalf("%v, %v: %v, %d, error %d, not %v, %d", b, l, plans, day, e, want, wantDay)
		}
		if e == api.OK {
			next, _ := Apply(l, plans)
			if !Right(b, l, plans) || slices.ContainsFunc(next, func(x api.Position) bool { return x.Amount < b.Low || x.Amount > b.High }) {
				t.Fatalf("%v, %v: %v", b, l, plans)
			}
		}
	}
}

// least tries everything, the least first.
func least(b api.Band, amount int) (int, int, bool) {
	for n := 0; n <= 20; n++ {
		for _, way := range [][2]int{{n, 0}, {0, n}} {
			if n%b.Lot == 0 && way[0] <= b.MaxRaise && way[1] <= b.MaxPlace && amount+way[0]-way[1] >= b.Low && amount+way[0]-way[1] <= b.High {
				return way[0], way[1], true
			}
		}
	}
	return 0, 0, false
}
