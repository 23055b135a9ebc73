package forecast

import (
	"math"
	"math/rand"
	"slices"
	"testing"

	"treasury/account"
	"treasury/api"
	"treasury/recall"
	"treasury/receipt"
)

// The limits are written out here as the document has them, so that a wrong one shows.
const (
	mostAmount = 1000000000000
	mostTotal  = 1000000000000000
	mostNumber = 1000000
	mostFlows  = 400
	mostDays   = 1000
	lastDay    = 36000
)

func flow(day, amount, kind, ref int) api.Flow {
	return api.Flow{Day: day, Amount: amount, Kind: kind, Ref: ref}
}

// other is a flow of no particular kind.
func other(day, amount int) api.Flow { return flow(day, amount, 5, 0) }

func at(day, amount int) api.Position { return api.Position{Day: day, Amount: amount} }

// desk is a desk with 100 in the sub-account 1, and payments of 10 times the warrant that wait.
func desk(t *testing.T, l ...api.Payment) api.Desk {
	t.Helper()
	a, e := account.Open([]int{1, 2}, 50)
	if e != api.OK {
		t.Fatalf("error %d", e)
	}
	if a, e = account.Post(a, account.Next(a, 0, 0, 1, 100, 0)); e != api.OK {
		t.Fatalf("error %d", e)
	}
	d, e := recall.Open(a)
	if e != api.OK {
		t.Fatalf("error %d", e)
	}
	for _, p := range l {
		if d, e = recall.Order(d, p); e != api.OK {
			t.Fatalf("error %d", e)
		}
	}
	return d
}

func pays(warrant, due int) api.Payment {
	return api.Payment{Warrant: warrant, Payee: 1, Amount: 10 * warrant, Due: due, Sub: 1}
}

// cash is cash with claims on the payer 1.
func cash(t *testing.T, l ...api.Claim) api.Cash {
	t.Helper()
	c, e := receipt.New(l)
	if e != api.OK {
		t.Fatalf("error %d", e)
	}
	return c
}

func owes(id, amount, day int) api.Claim {
	return api.Claim{ID: id, Payer: 1, Amount: amount, Open: amount, Day: day, Code: "4"}
}

func tax(base, first, times int) api.Tax {
	return api.Tax{Code: "4", Payer: 1, Base: base, Num: 1, Den: 1, First: first, Every: 1, Times: times}
}

// P29.1

func TestCheck(t *testing.T) {
	good := flow(0, 1, 1, 0)
	for _, l := range [][]api.Flow{nil, {good}, {flow(lastDay, mostAmount, 5, mostNumber), flow(0, -mostAmount, 3, 1)}, slices.Repeat([]api.Flow{good}, mostFlows)} {
		if e := Check(l); e != api.OK {
			t.Errorf("%v: error %d", l, e)
		}
	}
	bad := [][]api.Flow{slices.Repeat([]api.Flow{good}, mostFlows+1), make([]api.Flow, mostFlows+1)}
	for _, l := range bad {
		fails(t, l, api.ErrLimit)
	}
	for _, change := range []func(x *api.Flow){
		func(x *api.Flow) { x.Day = -1 }, func(x *api.Flow) { x.Day = lastDay + 1 },
		func(x *api.Flow) { x.Amount = 0 }, func(x *api.Flow) { x.Amount = mostAmount + 1 }, func(x *api.Flow) { x.Amount = -mostAmount - 1 }, func(x *api.Flow) { x.Amount = math.MinInt },
		func(x *api.Flow) { x.Kind = 0 }, func(x *api.Flow) { x.Kind = 6 },
		func(x *api.Flow) { x.Ref = -1 }, func(x *api.Flow) { x.Ref = mostNumber + 1 },
	} {
		x := good
		change(&x)
		fails(t, []api.Flow{good, x}, api.ErrFlow)
	}
}

// fails fails unless all functions have the error of flows.
func fails(t *testing.T, l []api.Flow, want api.Errno) {
	t.Helper()
	if e := Check(l); e != want {
		t.Errorf("%v: error %d, not %d", l, e, want)
	}
	if got, e := Merge([][]api.Flow{l[:1], l[1:]}); e != want || len(got) > 0 {
		t.Errorf("Merge: %v, error %d, not %d", got, e, want)
	}
	for _, n := range []int{0, math.MaxInt} {
		if got, e := Project(n, l, 0, 9); e != want || len(got) > 0 {
			t.Errorf("Project: %v, error %d, not %d", got, e, want)
		}
		if got, e := Shift(l, 0, n); e != want || len(got) > 0 {
			t.Errorf("Shift: %v, error %d, not %d", got, e, want)
		}
	}
}

func TestMerge(t *testing.T) {
	a := []api.Flow{flow(9, 1, 3, 2), flow(7, 2, 5, 0), flow(9, 3, 3, 1)}
	b := []api.Flow{flow(9, 4, 2, 9), flow(9, 5, 3, 2), flow(0, -6, 1, 1)}
	want := []api.Flow{b[2], a[1], b[0], a[2], a[0], b[1]}
	kept := slices.Concat(a, b)
	got, e := Merge([][]api.Flow{a, nil, b})
	if e != api.OK || !slices.Equal(got, want) {
		t.Errorf("%v, error %d, not %v", got, e, want)
	}
	got, e = Merge([][]api.Flow{b, a})
	want[4], want[5] = want[5], want[4]
	if e != api.OK || !slices.Equal(got, want) {
		t.Errorf("%v, error %d, not %v", got, e, want)
	}
	one, _ := Merge([][]api.Flow{a})
	one[0].Amount = -1
	if !slices.Equal(kept, slices.Concat(a, b)) {
		t.Error("an argument was changed")
	}
	for _, l := range [][][]api.Flow{nil, {nil, nil}} {
		if got, e := Merge(l); e != api.OK || len(got) != 0 {
			t.Errorf("%v, error %d", got, e)
		}
	}
	half := slices.Repeat([]api.Flow{other(3, 1)}, mostFlows/2)
	if got, e := Merge([][]api.Flow{half, half}); e != api.OK || len(got) != mostFlows {
		t.Errorf("%d, error %d", len(got), e)
	}
	if got, e := Merge([][]api.Flow{half, half, {other(3, 0)}}); e != api.ErrLimit || len(got) != 0 {
		t.Errorf("%d, error %d", len(got), e)
	}
}

func TestPayments(t *testing.T) {
	d := desk(t, pays(3, 5), pays(1, 9), pays(2, 7), pays(9, lastDay-10), pays(8, 2))
	d, e := recall.Recall(d, 8)
	if e != api.OK {
		t.Fatalf("error %d", e)
	}
	for now, want := range map[int][]api.Flow{
		0:            {flow(7, -20, 1, 2), flow(7, -30, 1, 3), flow(9, -10, 1, 1), flow(lastDay-10, -90, 1, 9)},
		9:            {flow(9, -10, 1, 1), flow(9, -20, 1, 2), flow(9, -30, 1, 3), flow(lastDay-10, -90, 1, 9)},
		12:           {flow(14, -10, 1, 1), flow(14, -20, 1, 2), flow(14, -30, 1, 3), flow(lastDay-10, -90, 1, 9)},
		lastDay - 10: {flow(lastDay-10, -10, 1, 1), flow(lastDay-10, -20, 1, 2), flow(lastDay-10, -30, 1, 3), flow(lastDay-10, -90, 1, 9)},
		lastDay - 9:  nil, -1: nil, math.MaxInt: nil,
	} {
		if got := Payments(d, now); !slices.Equal(got, want) {
			t.Errorf("day %d: %v, not %v", now, got, want)
		}
	}
	d.Items[0].State = api.StateSent
	if got := Payments(d, 0); len(got) > 0 {
		t.Errorf("%v of a desk that is not right", got)
	}
}

func TestOwed(t *testing.T) {
	c := cash(t, owes(1, 10, 9), owes(2, 20, 5), owes(3, 30, 7), owes(4, 40, lastDay), owes(5, 50, lastDay-2), owes(6, 60, lastDay-1))
	c, _, e := receipt.Take(c, api.Income{Number: 1, Day: 3, Payer: 1, Amount: 30, Claim: 3})
	if e != api.OK {
		t.Fatalf("error %d", e)
	}
	if c, _, e = receipt.Take(c, api.Income{Number: 2, Day: 3, Payer: 1, Amount: 4, Claim: 1}); e != api.OK {
		t.Fatalf("error %d", e)
	}
	for now, want := range map[int][]api.Flow{
		0:           {flow(7, 20, 2, 2), flow(9, 6, 2, 1), flow(lastDay-2, 50, 2, 5)},
		8:           {flow(8, 20, 2, 2), flow(9, 6, 2, 1), flow(lastDay-2, 50, 2, 5)},
		13:          {flow(14, 6, 2, 1), flow(14, 20, 2, 2), flow(lastDay-2, 50, 2, 5)},
		lastDay - 9: nil, -1: nil,
	} {
		if got := Owed(c, now); !slices.Equal(got, want) {
			t.Errorf("day %d: %v, not %v", now, got, want)
		}
	}
	if got := Owed(cash(t, owes(1, 1, 3)), 0); !slices.Equal(got, []api.Flow{flow(3, 1, 2, 1)}) {
		t.Errorf("the least claim: %v", got)
	}
	if got := Owed(c, lastDay-10); len(got) != 3 {
		t.Errorf("the last day: %v", got)
	}
	c.Loose[0]++
	if got := Owed(c, 0); len(got) > 0 {
		t.Errorf("%v of cash that is not right", got)
	}
}

// P29.2

func TestProject(t *testing.T) {
	for _, c := range []struct {
		open     int
		l        []api.Flow
		from, to int
		want     []api.Position
	}{
		{10, []api.Flow{other(2, -4)}, 1, 3, []api.Position{at(1, 10), at(2, 6), at(3, 6)}},
		{10, []api.Flow{other(3, 7), other(1, 1), other(0, 100), other(4, 50), other(1, 2), other(2, -20)}, 1, 3, []api.Position{at(1, 13), at(2, -7), at(3, 0)}},
		{-5, nil, 0, 0, []api.Position{at(0, -5)}},
		{-5, nil, 3, 2, nil},
		{0, []api.Flow{other(lastDay, 5)}, lastDay, lastDay, []api.Position{at(lastDay, 5)}},
		{mostTotal, nil, 0, 0, []api.Position{at(0, mostTotal)}},
		{-mostTotal, []api.Flow{other(0, 1), other(0, -1)}, 0, 0, []api.Position{at(0, -mostTotal)}},
		{mostTotal, []api.Flow{other(0, 5), other(0, -5), other(1, 9)}, 0, 0, []api.Position{at(0, mostTotal)}},
	} {
		if got, e := Project(c.open, c.l, c.from, c.to); e != api.OK || !slices.Equal(got, c.want) {
			t.Errorf("%v: %v, error %d", c, got, e)
		}
	}
	for _, c := range []struct {
		open     int
		l        []api.Flow
		from, to int
		want     api.Errno
	}{
		{mostTotal + 1, nil, 0, 9, api.ErrRange}, {-mostTotal - 1, nil, 0, 9, api.ErrRange}, {math.MinInt, nil, 5, 2, api.ErrRange},
		{0, nil, -1, 9, api.ErrRange}, {0, nil, 9, -1, api.ErrRange}, {0, nil, 0, lastDay + 1, api.ErrRange}, {0, nil, lastDay + 1, 0, api.ErrRange}, {0, nil, math.MinInt, math.MaxInt, api.ErrRange},
		{0, nil, 5, mostDays + 5, api.ErrLimit}, {0, nil, 0, lastDay, api.ErrLimit}, {mostTotal, []api.Flow{other(0, 1)}, 0, mostDays, api.ErrLimit},
		{mostTotal, []api.Flow{other(0, 1)}, 0, 9, api.ErrRange}, {mostTotal, []api.Flow{other(3, 1), other(4, -1)}, 0, 9, api.ErrRange}, {-mostTotal, []api.Flow{other(9, -1)}, 0, 9, api.ErrRange},
		{mostTotal, []api.Flow{other(9, 1)}, 0, 8, api.OK}, {0, nil, 5, mostDays + 4, api.OK}, {0, nil, lastDay, 0, api.OK},
	} {
		got, e := Project(c.open, c.l, c.from, c.to)
		if e != c.want || e != api.OK && len(got) > 0 {
			t.Errorf("%d, %v, %d to %d: %d positions, error %d, not %d", c.open, c.l, c.from, c.to, len(got), e, c.want)
		}
	}
}

func TestLowest(t *testing.T) {
	for _, c := range []struct {
		l    []api.Position
		want api.Position
		ok   bool
	}{
		{nil, api.Position{}, false}, {[]api.Position{at(3, 7)}, at(3, 7), true}, {[]api.Position{at(3, 7), at(4, -2), at(5, -2), at(6, 0)}, at(4, -2), true},
		{[]api.Position{at(9, math.MaxInt), at(4, math.MinInt), at(2, math.MinInt)}, at(4, math.MinInt), true},
	} {
		if got, ok := Lowest(c.l); got != c.want || ok != c.ok {
			t.Errorf("%v: %v, %v", c.l, got, ok)
		}
	}
}

// P29.3

func TestShift(t *testing.T) {
	l := []api.Flow{other(7, 1), flow(5, 2, 2, 2), flow(4, 3, 3, 3), other(lastDay-3, 4), flow(7, 5, 1, 1)}
	for _, c := range []struct {
		from, by int
		want     []api.Flow
	}{
		{0, 0, []api.Flow{flow(4, 3, 3, 3), flow(5, 2, 2, 2), flow(7, 5, 1, 1), other(7, 1), other(lastDay-3, 4)}},
		{5, 2, []api.Flow{flow(4, 3, 3, 3), flow(7, 2, 2, 2), flow(9, 5, 1, 1), other(9, 1), other(lastDay-1, 4)}},
		{6, 3, []api.Flow{flow(4, 3, 3, 3), flow(5, 2, 2, 2), flow(10, 5, 1, 1), other(10, 1), other(lastDay, 4)}},
		{4, 4, []api.Flow{flow(8, 3, 3, 3), flow(9, 2, 2, 2), flow(11, 5, 1, 1), other(11, 1)}},
		{math.MinInt, mostDays, []api.Flow{flow(1004, 3, 3, 3), flow(1005, 2, 2, 2), flow(1007, 5, 1, 1), other(1007, 1)}},
		{math.MaxInt, mostDays, []api.Flow{flow(4, 3, 3, 3), flow(5, 2, 2, 2), flow(7, 5, 1, 1), other(7, 1), other(lastDay-3, 4)}},
		{lastDay, 5, []api.Flow{flow(4, 3, 3, 3), flow(5, 2, 2, 2), flow(7, 5, 1, 1), other(7, 1), other(lastDay-3, 4)}},
	} {
		kept := slices.Clone(l)
		got, e := Shift(l, c.from, c.by)
		if e != api.OK || !slices.Equal(got, c.want) || !slices.Equal(kept, l) {
			t.Errorf("%d by %d: %v, error %d, not %v", c.from, c.by, got, e, c.want)
		}
	}
	// What is equal stays in its order, also if it meets by being moved.
	got, _ := Shift([]api.Flow{other(5, 1), other(3, 2), other(5, 3), other(4, 4)}, 4, 1)
	if want := []api.Flow{other(3, 2), other(5, 4), other(6, 1), other(6, 3)}; !slices.Equal(got, want) {
		t.Errorf("%v", got)
	}
	for _, by := range []int{-1, mostDays + 1, math.MaxInt, math.MinInt} {
		if got, e := Shift(l, 0, by); e != api.ErrRange || len(got) > 0 {
			t.Errorf("by %d: %v, error %d", by, got, e)
		}
	}
}

func TestWhole(t *testing.T) {
	d := desk(t, pays(3, 5), pays(1, 9), pays(2, 7))
	c := cash(t, owes(1, 5, 2), owes(2, 7, 10), owes(3, 1000, 400))
	l := []api.Tax{tax(200, 3, 4), tax(50, 8, 1)}
	// The payments go on 9, 9 and 9, the claims come on 8 and 10, and the taxes on 8, and on 35 and later.
	want := []api.Position{at(8, 100+5+50), at(9, 95), at(10, 102), at(11, 102)}
	if got, e := Whole(d, c, l, 8, 11); e != api.OK || !slices.Equal(got, []api.Position{at(8, 100-30-20+5+50), at(9, 95), at(10, 102), at(11, 102)}) {
		t.Errorf("%v, error %d, not %v", got, e, want)
	}
	got, e := Whole(d, c, l, 0, 37)
	if e != api.OK || len(got) != 38 || got[1] != at(1, 100) || got[3] != at(3, 305) || got[7] != at(7, 255) || got[37] != at(37, 100-60+12+450) {
		t.Errorf("%v, error %d", got, e)
	}
}

func TestErrorsOfWhole(t *testing.T) {
	d, c := desk(t, pays(3, 5)), cash(t, owes(1, 5, 2))
	l := []api.Tax{tax(200, 3, 4)}
	broken, wrong, bad := desk(t, pays(3, 5)), cash(t, owes(1, 5, 2)), []api.Tax{{}}
	broken.Account.Subs[0].Balance++
	wrong.Claims[0].Open = 0
	many := slices.Repeat([]api.Tax{tax(1, 0, 60)}, 7)
	var crowd []api.Payment
	for i := range 99 {
		crowd = append(crowd, pays(i+1, 900))
	}
	great := slices.Repeat([]api.Tax{tax(mostAmount, 0, 60)}, 1)
	rich := desk(t)
	rich.Account, _ = account.Open([]int{1, 2}, 0)
	for range 40 {
		rich.Account, _ = account.Post(rich.Account, account.Next(rich.Account, 0, 0, 2, mostAmount, 0))
	}
	for _, x := range []struct {
		name    string
		d       api.Desk
		c       api.Cash
		l       []api.Tax
		now, to int
		want    api.Errno
	}{
		{"nothing wrong", d, c, l, 0, 999, api.OK},
		{"no desk", api.Desk{}, c, l, 0, 9, api.ErrAccount},
		{"all wrong", broken, wrong, bad, -1, 9, api.ErrAccount},
		{"the cash", d, wrong, bad, -1, 9, api.ErrIncome},
		{"the taxes", d, c, bad, -1, 9, api.ErrTax},
		{"too many taxes", d, c, slices.Repeat(bad, 21), -1, 9, api.ErrLimit},
		{"before day 0", d, c, l, -1, 9, api.ErrRange},
		{"now too late", d, c, l, lastDay - 9, lastDay, api.ErrRange},
		{"the last day for now", d, c, l, lastDay - 10, lastDay, api.OK},
		{"to before now", d, c, l, 8, 7, api.ErrRange},
		{"to now", d, c, l, 8, 8, api.OK},
		{"to no day", d, c, l, lastDay - 10, lastDay + 1, api.ErrRange},
		{"1001 days", d, c, l, 0, 1000, api.ErrLimit},
		{"680 taxes", d, c, slices.Repeat(many[:1], 20), 0, 999, api.ErrLimit},
		{"680 taxes to no day", d, c, slices.Repeat(many[:1], 20), 0, lastDay + 1, api.ErrRange},
		{"420 taxes", d, c, many, 0, 2000, api.ErrLimit},
		{"238 taxes and 100 others", desk(t, crowd...), c, many, 0, 999, api.OK},
		{"340 taxes and 100 others", desk(t, crowd...), c, slices.Repeat(many[:1], 10), 0, 999, api.ErrLimit},
		{"a year of great taxes", rich, c, great, 0, 999, api.OK},
	} {
		got, e := Whole(x.d, x.c, x.l, x.now, x.to)
		if e != x.want || (len(got) > 0) != (e == api.OK) {
			t.Errorf("%s: %d positions, error %d, not %d", x.name, len(got), e, x.want)
		}
	}
}

// The consequences, and P1

func TestRandomForecasts(t *testing.T) {
	r := rand.New(rand.NewSource(291))
	random := func() []api.Flow {
		var l []api.Flow
		for range r.Intn(30) {
			l = append(l, flow(r.Intn(60), 1+r.Intn(100), 1+r.Intn(5), r.Intn(9)))
			l[len(l)-1].Amount *= 1 - 2*r.Intn(2)
		}
		return l
	}
	for range 300 {
		a, b, open := random(), random(), r.Intn(200)-100
		from := r.Intn(30)
		to := from + r.Intn(40)
		both, e := Merge([][]api.Flow{a, b})
		if e != api.OK || !slices.IsSortedFunc(both, func(x, y api.Flow) int { return (x.Day-y.Day)*10000 + (x.Kind-y.Kind)*100 + x.Ref - y.Ref }) {
			t.Fatalf("%v, error %d", both, e)
		}
		x, _ := Project(open, a, from, to)
		y, _ := Project(open, b, from, to)
		z, _ := Project(open, both, from, to)
		sum := open
		for _, f := range both {
			if from <= f.Day && f.Day <= to {
				sum += f.Amount
			}
		}
		for i := range z {
			if z[i].Amount != x[i].Amount+y[i].Amount-open || z[i].Day != from+i {
				t.Fatalf("%v, not %v and %v", z[i], x[i], y[i])
			}
		}
		if len(z) != to-from+1 || z[len(z)-1].Amount != sum {
			t.Fatalf("%v, not %d", z, sum)
		}
		low, ok := Lowest(z)
		if !ok || slices.ContainsFunc(z, func(p api.Position) bool { return p.Amount < low.Amount || p.Amount == low.Amount && p.Day < low.Day }) {
			t.Fatalf("%v of %v", low, z)
		}
	}
}
