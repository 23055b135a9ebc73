package sweep

import (
	"fmt"
	"math"
	"math/rand"
	"slices"
	"testing"

	"treasury/account"
	"treasury/api"
)

// The limits are written out here as the document has them, so that a wrong one shows.
const (
	mostAmount  = 1000000000000
	mostEntries = 400
	lastOfAll   = 36000
)

// accountOf returns an account on the day 7 whose sub-accounts 1, 2 and so on have some balances. That of the first one may be below 0.
func accountOf(t *testing.T, credit int, balances ...int) api.Account {
	t.Helper()
	var ids []int
	for i := range balances {
		ids = append(ids, i+1)
	}
	a, e := account.Open(ids, credit)
	if e != api.OK {
		t.Fatalf("error %d", e)
	}
	for i, n := range balances {
		if n < 0 {
			a = posted(t, a, i+1, 0, -n)
		}
		for ; n > 0; n -= mostAmount {
			a = posted(t, a, 0, i+1, min(n, mostAmount))
		}
	}
	return a
}

// posted returns an account with one more entry on the day 7, which must be possible.
func posted(t *testing.T, a api.Account, from, to, amount int) api.Account {
	t.Helper()
	a, e := account.Post(a, account.Next(a, 7, from, to, amount, 5))
	if e != api.OK {
		t.Fatalf("from %d to %d %d: error %d", from, to, amount, e)
	}
	return a
}

// full is an account with so many entries.
func full(t *testing.T, entries int) api.Account {
	t.Helper()
	a := accountOf(t, 0, 0, 0, 0)
	for i := range entries {
		a.Entries = append(a.Entries, api.Entry{Number: i + 1, Day: 7, To: 2, Amount: 1})
	}
	a.Subs[1].Balance = entries
	return a
}

func keep(sub, low, high int) api.Keep { return api.Keep{Sub: sub, Low: low, High: high} }

func same(a, b api.Account) bool {
	return a.Credit == b.Credit && slices.Equal(a.Subs, b.Subs) && slices.Equal(a.Entries, b.Entries)
}

// P24.1

func TestCheck(t *testing.T) {
	a := accountOf(t, 50, -20, 30, 40, 50)
	broken := accountOf(t, 50, -20, 30, 40, 50)
	broken.Subs[1].Balance++
	large := accountOf(t, 0, 1)
	large.Subs = slices.Repeat(large.Subs, 21)
	for _, c := range []struct {
		name string
		a    api.Account
		l    []api.Keep
		want api.Errno
	}{
		{"no rules", a, nil, api.OK},
		{"a rule", a, []api.Keep{{Sub: 2, Low: 5, High: 10}}, api.OK},
		{"all rules", a, []api.Keep{{Sub: 2}, {Sub: 3, Low: 10, High: 10}, {Sub: 4, Low: mostAmount, High: mostAmount}}, api.OK},
		{"a broken account", broken, nil, api.ErrAccount},
		{"a broken account and a rule", broken, []api.Keep{{Sub: 1}}, api.ErrAccount},
		{"a large account", large, []api.Keep{{Sub: 1}}, api.ErrLimit},
		{"the main one", a, []api.Keep{{Sub: 1, High: 10}}, api.ErrKeep},
		{"outside", a, []api.Keep{{Sub: 0, High: 10}}, api.ErrKeep},
		{"not there", a, []api.Keep{{Sub: 5, High: 10}}, api.ErrKeep},
		{"below 0", a, []api.Keep{{Sub: -2, High: 10}}, api.ErrKeep},
		{"twice", a, []api.Keep{{Sub: 2, High: 10}, {Sub: 2, High: 10}}, api.ErrKeep},
		{"descending", a, []api.Keep{{Sub: 3, High: 10}, {Sub: 2, High: 10}}, api.ErrKeep},
		{"low below 0", a, []api.Keep{{Sub: 2, Low: -1, High: 10}}, api.ErrKeep},
		{"low above high", a, []api.Keep{{Sub: 2, Low: 11, High: 10}}, api.ErrKeep},
		{"high below 0", a, []api.Keep{{Sub: 2, Low: -2, High: -1}}, api.ErrKeep},
		{"too high", a, []api.Keep{{Sub: 2, High: mostAmount + 1}}, api.ErrKeep},
		{"the second one", a, []api.Keep{{Sub: 2, High: 10}, {Sub: 3, Low: 11, High: 10}}, api.ErrKeep},
	} {
		if e := Check(c.a, c.l); e != c.want {
			t.Errorf("%s: error %d, not %d", c.name, e, c.want)
		}
		if c.want == api.OK {
			continue
		}
		for _, day := range []int{-1, 7} {
			if plan, e := Plan(c.a, c.l, day); plan != nil || e != c.want {
				t.Errorf("%s, Plan: %v, error %d, not %d", c.name, plan, e, c.want)
			}
			if got, e := Sweep(c.a, c.l, day); !same(got, api.Account{}) || e != c.want {
				t.Errorf("%s, Sweep: %v, error %d, not %d", c.name, got, e, c.want)
			}
		}
		if Kept(c.a, c.l) || Short(c.a, c.l) != 0 {
			t.Errorf("%s: %v, short by %d", c.name, Kept(c.a, c.l), Short(c.a, c.l))
		}
	}
}

// way is the ends and the amount of an entry.
type way struct{ from, to, amount int }

func TestPlan(t *testing.T) {
	for _, c := range []struct {
		name     string
		balances []int
		l        []api.Keep
		want     []way
		kept     bool // before
		short    int
	}{
		{"example", []int{10, 0, 0}, []api.Keep{keep(2, 8, 9), keep(3, 8, 9)}, []way{{1, 2, 8}, {1, 3, 2}}, false, 16},
		{"no rules", []int{10, 500, 0}, nil, nil, true, 0},
		{"all kept", []int{10, 8, 9}, []api.Keep{keep(2, 8, 9), keep(3, 8, 9)}, nil, true, 0},
		{"too much", []int{10, 9, 15}, []api.Keep{keep(2, 8, 8), keep(3, 8, 9)}, []way{{2, 1, 1}, {3, 1, 6}}, false, 0},
		{"what is too much first", []int{0, 0, 15}, []api.Keep{keep(2, 5, 8), keep(3, 0, 9)}, []way{{3, 1, 6}, {1, 2, 5}}, false, 5},
		{"not as much as is missing", []int{0, 0, 10, 0}, []api.Keep{keep(2, 5, 8), keep(3, 0, 3), keep(4, 5, 5)}, []way{{3, 1, 7}, {1, 2, 5}, {1, 4, 2}}, false, 10},
		{"nothing there", []int{0, 0, 0}, []api.Keep{keep(2, 5, 8), keep(3, 5, 8)}, nil, false, 10},
		{"less than nothing there", []int{-7, 0, 0}, []api.Keep{keep(2, 5, 8)}, nil, false, 5},
		{"the debt first", []int{-7, 10, 0}, []api.Keep{keep(2, 0, 0), keep(3, 5, 8)}, []way{{2, 1, 10}, {1, 3, 3}}, false, 5},
		{"only the debt", []int{-17, 10, 0}, []api.Keep{keep(2, 0, 0), keep(3, 5, 8)}, []way{{2, 1, 10}}, false, 5},
		{"without a rule", []int{10, 0, 99}, []api.Keep{keep(2, 5, 8)}, []way{{1, 2, 5}}, false, 5},
		{"more than an amount", []int{0, 2*mostAmount + 5, 0}, []api.Keep{keep(2, 0, 3), keep(3, 7, 9)}, []way{{2, 1, mostAmount}, {1, 3, 7}}, false, 7},
		{"just an amount", []int{0, mostAmount + 3}, []api.Keep{keep(2, 0, 3)}, []way{{2, 1, mostAmount}}, false, 0},
		{"the largest bounds", []int{mostAmount, 1, mostAmount}, []api.Keep{keep(2, mostAmount, mostAmount), keep(3, 0, mostAmount)}, []way{{1, 2, mostAmount - 1}}, false, mostAmount - 1},
		{"a part is there", []int{9, 4, 4}, []api.Keep{keep(2, 6, 8), keep(3, 8, 9)}, []way{{1, 2, 2}, {1, 3, 4}}, false, 6},
	} {
		a := accountOf(t, 100, c.balances...)
		kept := fmt.Sprint(a, c.l)
		for _, day := range []int{7, 8, lastOfAll} {
			var want []api.Entry
			for i, w := range c.want {
				want = append(want, api.Entry{Number: len(a.Entries) + i + 1, Day: day, From: w.from, To: w.to, Amount: w.amount})
			}
			plan, e := Plan(a, c.l, day)
			if e != api.OK || !slices.Equal(plan, want) {
				t.Errorf("%s, day %d: %v, error %d, not %v", c.name, day, plan, e, want)
			}
			swept(t, c.name, a, c.l, day, want)
		}
		if got := Kept(a, c.l); got != c.kept {
			t.Errorf("%s: kept %v", c.name, got)
		}
		if got := Short(a, c.l); got != c.short {
			t.Errorf("%s: short by %d, not %d", c.name, got, c.short)
		}
		if kept != fmt.Sprint(a, c.l) {
			t.Errorf("%s: an argument was changed", c.name)
		}
	}
}

// swept fails unless a sweep posts a plan.
func swept(t *testing.T, name string, a api.Account, l []api.Keep, day int, plan []api.Entry) {
	t.Helper()
	want := a
	for _, x := range plan {
		next, e := account.Post(want, x)
		if e != api.OK {
			t.Fatalf("%s: %v is not possible, error %d", name, x, e)
		}
		want = next
	}
	if got, e := Sweep(a, l, day); e != api.OK || !same(got, want) {
		t.Errorf("%s, day %d: %v, error %d, not %v", name, day, got, e, want)
	}
}

func TestErrorsOfPlan(t *testing.T) {
	both := []api.Keep{keep(2, 5, 8), keep(3, 5, 8)}
	for _, c := range []struct {
		name string
		a    api.Account
		l    []api.Keep
		day  int
		want api.Errno
	}{
		{"a day too early", accountOf(t, 0, 10, 0, 0), both, 6, api.ErrOrder},
		{"a day below 0", full(t, 0), both, -1, api.ErrOrder},
		{"the least number", full(t, 0), nil, math.MinInt, api.ErrOrder},
		{"a day too late", accountOf(t, 0, 10, 0, 0), both, lastOfAll + 1, api.ErrOrder},
		{"nothing to do too late", full(t, 0), nil, lastOfAll + 1, api.ErrOrder},
		{"the day 0", full(t, 0), both, 0, api.OK},
		{"398 entries and 2", full(t, mostEntries-2), both, 7, api.OK},
		{"399 entries and 2", full(t, mostEntries-1), both, 7, api.ErrLimit},
		{"399 entries and 1", full(t, mostEntries-1), both[:1], 7, api.OK},
		{"400 entries and none", full(t, mostEntries), nil, 7, api.OK},
		{"400 entries and 1", full(t, mostEntries), both[:1], 7, api.ErrLimit},
		{"order ahead of limit", full(t, mostEntries), both, 6, api.ErrOrder},
		{"keep ahead of order", full(t, mostEntries), []api.Keep{{Sub: 1}}, 6, api.ErrKeep},
	} {
		plan, e := Plan(c.a, c.l, c.day)
		if e != c.want || e != api.OK && plan != nil {
			t.Errorf("%s, Plan: %v, error %d, not %d", c.name, plan, e, c.want)
		}
		got, e := Sweep(c.a, c.l, c.day)
		if e != c.want || (e != api.OK) != same(got, api.Account{}) {
			t.Errorf("%s, Sweep: %v, error %d, not %d", c.name, got, e, c.want)
		}
	}
}

// P24.2

func TestKept(t *testing.T) {
	a := accountOf(t, 0, 3, 5, 8)
	for _, c := range []struct {
		l    []api.Keep
		want bool
	}{
		{nil, true}, {[]api.Keep{keep(2, 5, 5)}, true}, {[]api.Keep{keep(2, 0, 5), keep(3, 8, 9)}, true}, {[]api.Keep{keep(2, 6, 7)}, false}, {[]api.Keep{keep(2, 3, 4)}, false}, {[]api.Keep{keep(2, 0, 5), keep(3, 9, 9)}, false}, {[]api.Keep{keep(2, 0, 5), keep(3, 7, 7)}, false},
	} {
		if got := Kept(a, c.l); got != c.want {
			t.Errorf("%v: %v", c.l, got)
		}
	}
}

// The consequences, and P1

func TestRandomSweeps(t *testing.T) {
	r := rand.New(rand.NewSource(241))
	for range 3000 {
		a := accountOf(t, 20, r.Intn(60)-20, r.Intn(30), r.Intn(30), r.Intn(30), r.Intn(30))
		var l []api.Keep
		for id := 2; id <= 5; id++ {
			if r.Intn(4) > 0 {
				low := r.Intn(30)
				l = append(l, api.Keep{Sub: id, Low: low, High: low + r.Intn(10)})
			}
		}
		b, e := Sweep(a, l, 9)
		if e != api.OK || account.Total(a) != account.Total(b) {
			t.Fatalf("%v by %v: %v, error %d", a, l, b, e)
		}
		if plan, e := Plan(b, l, 9); e != api.OK || len(plan) != 0 {
			t.Fatalf("%v is swept again by %v: %v, error %d", b, l, plan, e)
		}
		// What is too much has gone, and what is missing has come as far as there was something.
		main, _ := account.Balance(b, 1)
		if !Kept(b, l) && main > 0 || Kept(b, l) != (Short(b, l) == 0) {
			t.Fatalf("%v, main %d, kept %v, short by %d", b, main, Kept(b, l), Short(b, l))
		}
		had, _ := account.Balance(a, 1)
		for _, k := range l {
			n, _ := account.Balance(a, k.Sub)
			had += max(n-k.High, 0)
		}
		if want := max(Short(a, l)-max(had, 0), 0); Short(b, l) != want {
			t.Fatalf("short by %d, not %d", Short(b, l), want)
		}
	}
}

func TestResultsAreNewMemory(t *testing.T) {
	a := accountOf(t, 0, 10, 0, 30)
	kept := fmt.Sprint(a)
	for _, l := range [][]api.Keep{nil, {keep(2, 5, 8), keep(3, 5, 8)}} {
		b, _ := Sweep(a, l, 9)
		for i := range b.Subs {
			b.Subs[i].Balance = -1
		}
		for i := range b.Entries {
			b.Entries[i].Amount = -1
		}
	}
	if fmt.Sprint(a) != kept {
		t.Error("memory is shared")
	}
}
