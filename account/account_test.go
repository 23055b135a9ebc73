package account

import (
	"fmt"
	"math"
	"math/rand"
	"slices"
	"testing"

	"treasury/api"
)

// The limits are written out here as the document has them, so that a wrong one shows.
const (
	mostAmount  = 1000000000000
	mostTotal   = 1000000000000000
	mostSubs    = 20
	mostEntries = 400
	mostNumber  = 1000000
	lastDay     = 36000
)

func entryOf(number, day, from, to, amount, ref int) api.Entry {
	return api.Entry{Number: number, Day: day, From: from, To: to, Amount: amount, Ref: ref}
}

// example is an account whose main sub-account is below 0.
func example() api.Account {
	return api.Account{
		Credit: 50,
		Subs:   []api.Sub{{ID: 1, Balance: -20}, {ID: 2, Balance: 90}, {ID: 7, Balance: 5}},
		Entries: []api.Entry{
			entryOf(1, 10, 0, 1, 100, 9), entryOf(2, 10, 1, 2, 60, 0), entryOf(3, 12, 1, 0, 30, mostNumber),
			entryOf(4, 12, 0, 7, 10, 0), entryOf(5, 13, 1, 2, 30, 0), entryOf(6, 20, 7, 0, 5, 9),
		},
	}
}

// full is an account with so many entries of 1 on the day 5.
func full(n int) api.Account {
	a := api.Account{Subs: []api.Sub{{ID: 1, Balance: n}}}
	for i := range n {
		a.Entries = append(a.Entries, entryOf(i+1, 5, 0, 1, 1, 0))
	}
	return a
}

func same(a, b api.Account) bool {
	return a.Credit == b.Credit && slices.Equal(a.Subs, b.Subs) && slices.Equal(a.Entries, b.Entries)
}

// copyAll returns an account in memory of its own.
func copyAll(a api.Account) api.Account {
	return api.Account{Credit: a.Credit, Subs: slices.Clone(a.Subs), Entries: slices.Clone(a.Entries)}
}

func upTo(n int) []int {
	var ids []int
	for i := range n {
		ids = append(ids, i+1)
	}
	return ids
}

// P23.1

func TestOpen(t *testing.T) {
	for _, c := range []struct {
		ids    []int
		credit int
		want   api.Errno
	}{
		{[]int{1}, 0, api.OK}, {[]int{1, 2, 1000}, mostAmount, api.OK}, {upTo(mostSubs), 5, api.OK},
		{[]int{1}, -1, api.ErrRange}, {[]int{1}, mostAmount + 1, api.ErrRange}, {[]int{1}, math.MinInt, api.ErrRange},
		{upTo(mostSubs + 1), 5, api.ErrLimit}, {make([]int, mostSubs+1), 0, api.ErrLimit}, {make([]int, mostSubs+1), -1, api.ErrRange},
		{nil, 5, api.ErrSub}, {[]int{2, 3}, 5, api.ErrSub}, {[]int{0, 1}, 5, api.ErrSub}, {[]int{-1, 1}, 5, api.ErrSub}, {[]int{1, 1}, 5, api.ErrSub}, {[]int{1, 3, 2}, 5, api.ErrSub},
		{[]int{1, 1001}, 5, api.ErrSub}, {[]int{1, math.MaxInt}, 5, api.ErrSub}, {[]int{1, 2, 2}, 5, api.ErrSub}, {nil, -1, api.ErrRange},
	} {
		kept := slices.Clone(c.ids)
		a, e := Open(c.ids, c.credit)
		want := api.Account{}
		if c.want == api.OK {
			want.Credit = c.credit
			for _, id := range c.ids {
				want.Subs = append(want.Subs, api.Sub{ID: id})
			}
		}
		if e != c.want || !same(a, want) || !slices.Equal(kept, c.ids) {
			t.Errorf("%v, credit %d: %v, error %d, not %d", c.ids, c.credit, a, e, c.want)
		}
		if e == api.OK && Check(a) != api.OK {
			t.Errorf("%v is not right", a)
		}
	}
}

// wrong are changes of the example that make it wrong, with the error of Check.
func wrong() map[string]struct {
	change func(a *api.Account)
	want   api.Errno
} {
	type change = struct {
		change func(a *api.Account)
		want   api.Errno
	}
	set := func(i int, e api.Entry) change {
		return change{func(a *api.Account) { a.Entries[i] = e }, api.ErrAccount}
	}
	ends := func(f func(a *api.Account)) change { return change{f, api.ErrAccount} }
	return map[string]change{
		"21 sub-accounts":                  {func(a *api.Account) { *a, _ = Open(upTo(20), 0); a.Subs = append(a.Subs, api.Sub{ID: 21}) }, api.ErrLimit},
		"401 entries":                      {func(a *api.Account) { *a = full(mostEntries + 1) }, api.ErrLimit},
		"401 entries, and a wrong balance": {func(a *api.Account) { *a = full(mostEntries + 1); a.Subs[0].Balance = 0 }, api.ErrLimit},
		"nothing":                          ends(func(a *api.Account) { *a = api.Account{} }),
		"a credit below 0":                 ends(func(a *api.Account) { *a, _ = Open([]int{1}, 0); a.Credit = -1 }),
		"too much credit":                  ends(func(a *api.Account) { a.Credit = mostAmount + 1 }),
		"too little credit":                ends(func(a *api.Account) { a.Credit = 19 }),
		"no main one":                      ends(func(a *api.Account) { *a = api.Account{Subs: []api.Sub{{ID: 2}}} }),
		"the ID 0":                         ends(func(a *api.Account) { *a = api.Account{Subs: []api.Sub{{ID: 0}, {ID: 1}}} }),
		"an ID twice":                      ends(func(a *api.Account) { *a = api.Account{Subs: []api.Sub{{ID: 1}, {ID: 1}}} }),
		"IDs that descend":                 ends(func(a *api.Account) { *a = api.Account{Subs: []api.Sub{{ID: 1}, {ID: 3}, {ID: 2}}} }),
		"too large an ID":                  ends(func(a *api.Account) { *a = api.Account{Subs: []api.Sub{{ID: 1}, {ID: 1001}}} }),
		"a balance of the main one":        ends(func(a *api.Account) { a.Subs[0].Balance++ }),
		"a balance of another one":         ends(func(a *api.Account) { a.Subs[2].Balance-- }),
		"two balances":                     ends(func(a *api.Account) { a.Subs[1].Balance--; a.Subs[2].Balance++ }),
		"a missing entry":                  ends(func(a *api.Account) { a.Entries = a.Entries[:5] }),
		"the number 0":                     set(0, entryOf(0, 10, 0, 1, 100, 9)),
		"a number twice":                   set(3, entryOf(3, 12, 0, 7, 10, 0)),
		"a number left out":                set(5, entryOf(7, 20, 7, 0, 5, 9)),
		"a day that falls":                 set(4, entryOf(5, 11, 1, 2, 30, 0)),
		"a day below 0":                    set(0, entryOf(1, -1, 0, 1, 100, 9)),
		"too late a day":                   set(5, entryOf(6, lastDay+1, 7, 0, 5, 9)),
		"from outside to outside":          ends(func(a *api.Account) { a.Entries = append(a.Entries, entryOf(7, 20, 0, 0, 5, 9)) }),
		"from one to itself":               ends(func(a *api.Account) { a.Entries = append(a.Entries, entryOf(7, 20, 2, 2, 5, 9)) }),
		"from where there is none":         ends(func(a *api.Account) { a.Entries = append(a.Entries, entryOf(7, 20, 3, 0, 5, 9)) }),
		"to where there is none":           ends(func(a *api.Account) { a.Entries = append(a.Entries, entryOf(7, 20, 0, 3, 5, 9)) }),
		"from an ID below 0":               ends(func(a *api.Account) { a.Entries = append(a.Entries, entryOf(7, 20, -1, 0, 5, 9)) }),
		"an amount of 0":                   ends(func(a *api.Account) { a.Entries = append(a.Entries, entryOf(7, 20, 1, 2, 0, 9)) }),
		"an amount below 0":                ends(func(a *api.Account) { a.Entries[5] = entryOf(6, 20, 0, 7, -5, 9) }),
		"a ref below 0":                    set(5, entryOf(6, 20, 7, 0, 5, -1)),
		"too large a ref":                  set(5, entryOf(6, 20, 7, 0, 5, mostNumber+1)),
		"another amount":                   set(0, entryOf(1, 10, 0, 1, 101, 9)),
		"a balance below 0 on the way": ends(func(a *api.Account) {
			a.Entries = append(a.Entries, entryOf(7, 20, 7, 1, 6, 0), entryOf(8, 20, 1, 7, 6, 0))
		}),
	}
}

func TestCheck(t *testing.T) {
	for name, c := range wrong() {
		a := example()
		c.change(&a)
		if e := Check(a); e != c.want {
			t.Errorf("%s: error %d, not %d", name, e, c.want)
		}
		if got, e := Post(a, Next(a, 20, 0, 1, 1, 0)); !same(got, api.Account{}) || e != c.want {
			t.Errorf("%s, Post: %v, error %d, not %d", name, got, e, c.want)
		}
		nothing(t, name, a)
	}
	last := example()
	last.Entries[5].Day = lastDay
	first := example()
	first.Entries[0].Day = 0
	exact := example()
	exact.Credit = 20
	all, _ := Open(upTo(mostSubs), mostAmount)
	for name, a := range map[string]api.Account{"the example": example(), "no entries": {Subs: []api.Sub{{ID: 1}}}, "400 entries": full(mostEntries), "20 sub-accounts": all, "the last day": last, "the first day": first, "just enough credit": exact} {
		if e := Check(a); e != api.OK {
			t.Errorf("%s: error %d", name, e)
		}
	}
}

// nothing fails unless the functions without an error return nothing for an account that is not right.
func nothing(t *testing.T, name string, a api.Account) {
	t.Helper()
	if n, ok := Balance(a, 1); n != 0 || ok {
		t.Errorf("%s: the balance is %d, %v", name, n, ok)
	}
	if n := Total(a); n != 0 {
		t.Errorf("%s: the total is %d", name, n)
	}
	if l := At(a, lastDay); len(l) != 0 {
		t.Errorf("%s: at the end %v", name, l)
	}
	if in, out := Flow(a, 0, lastDay); in != 0 || out != 0 {
		t.Errorf("%s: the flow is %d, %d", name, in, out)
	}
}

// P23.2

func TestPost(t *testing.T) {
	a := example()
	for _, c := range []struct {
		name string
		e    api.Entry
		want []int // the balances behind it
	}{
		{"in", entryOf(7, 20, 0, 2, 5, 0), []int{-20, 95, 5}},
		{"out", entryOf(7, 20, 2, 0, 90, mostNumber), []int{-20, 0, 5}},
		{"later", entryOf(7, lastDay, 7, 1, 5, 1), []int{-15, 90, 0}},
		{"all credit", entryOf(7, 21, 1, 7, 30, 0), []int{-50, 90, 35}},
		{"the largest amount", entryOf(7, 21, 0, 1, mostAmount, 0), []int{mostAmount - 20, 90, 5}},
	} {
		got, e := Post(a, c.e)
		want := copyAll(a)
		want.Entries = append(want.Entries, c.e)
		for i, n := range c.want {
			want.Subs[i].Balance = n
		}
		if e != api.OK || !same(got, want) || Check(got) != api.OK {
			t.Errorf("%s: %v, error %d", c.name, got, e)
		}
	}
	if !same(a, example()) {
		t.Error("the account was changed")
	}
	one, e := Post(full(0), entryOf(1, 0, 0, 1, 1, 0))
	if want := full(1); e != api.OK || one.Subs[0] != want.Subs[0] || one.Entries[0] != entryOf(1, 0, 0, 1, 1, 0) {
		t.Errorf("the first one: %v, error %d", one, e)
	}
}

func TestErrorsOfPost(t *testing.T) {
	for _, c := range []struct {
		name string
		a    api.Account
		e    api.Entry
		want api.Errno
	}{
		{"399 entries", full(mostEntries - 1), entryOf(400, 5, 0, 1, 1, 0), api.OK},
		{"400 entries", full(mostEntries), entryOf(401, 5, 0, 1, 1, 0), api.ErrLimit},
		{"400 entries, and all else wrong", full(mostEntries), entryOf(0, -1, 5, 5, 0, -1), api.ErrLimit},
		{"the number of the last one", example(), entryOf(6, 20, 0, 1, 1, 0), api.ErrKnown},
		{"a number too large", example(), entryOf(8, 20, 0, 1, 1, 0), api.ErrKnown},
		{"the number 0", full(0), entryOf(0, 5, 0, 1, 1, 0), api.ErrKnown},
		{"the number 2", full(0), entryOf(2, 5, 0, 1, 1, 0), api.ErrKnown},
		{"number ahead of day", example(), entryOf(8, 19, 0, 1, 1, 0), api.ErrKnown},
		{"a day too early", example(), entryOf(7, 19, 0, 1, 1, 0), api.ErrOrder},
		{"a day too late", example(), entryOf(7, lastDay+1, 0, 1, 1, 0), api.ErrOrder},
		{"a day below 0", full(0), entryOf(1, -1, 0, 1, 1, 0), api.ErrOrder},
		{"day ahead of amount", example(), entryOf(7, 19, 0, 1, 0, 0), api.ErrOrder},
		{"nothing", example(), entryOf(7, 20, 0, 1, 0, 0), api.ErrRange},
		{"less than nothing", example(), entryOf(7, 20, 1, 0, -1, 0), api.ErrRange},
		{"no amount", example(), entryOf(7, 20, 0, 1, mostAmount+1, 0), api.ErrRange},
		{"the largest number", example(), entryOf(7, 20, 0, 1, math.MaxInt, 0), api.ErrRange},
		{"the least number", example(), entryOf(7, 20, 0, 1, math.MinInt, 0), api.ErrRange},
		{"a ref below 0", example(), entryOf(7, 20, 0, 1, 1, -1), api.ErrRange},
		{"a ref too large", example(), entryOf(7, 20, 0, 1, 1, mostNumber+1), api.ErrRange},
		{"ref ahead of sub", example(), entryOf(7, 20, 0, 3, 1, -1), api.ErrRange},
		{"amount ahead of sub", example(), entryOf(7, 20, 0, 0, 0, 0), api.ErrRange},
		{"outside twice", example(), entryOf(7, 20, 0, 0, 1, 0), api.ErrSub},
		{"one sub-account twice", example(), entryOf(7, 20, 2, 2, 1, 0), api.ErrSub},
		{"from an unknown one", example(), entryOf(7, 20, 3, 1, 1, 0), api.ErrSub},
		{"to an unknown one", example(), entryOf(7, 20, 1, 6, 1, 0), api.ErrSub},
		{"below 0", example(), entryOf(7, 20, -1, 1, 1, 0), api.ErrSub},
		{"sub ahead of balance", example(), entryOf(7, 20, 7, 3, 6, 0), api.ErrSub},
		{"more than it has", example(), entryOf(7, 20, 7, 0, 6, 0), api.ErrBalance},
		{"more than it has, inside", example(), entryOf(7, 20, 2, 1, 91, 0), api.ErrBalance},
		{"more than the credit", example(), entryOf(7, 20, 1, 0, 31, 0), api.ErrBalance},
		{"without credit", full(0), entryOf(1, 0, 1, 0, 1, 0), api.ErrBalance},
	} {
		kept := copyAll(c.a)
		got, e := Post(c.a, c.e)
		if e != c.want || (e != api.OK) != same(got, api.Account{}) {
			t.Errorf("%s: %v, error %d, not %d", c.name, got, e, c.want)
		}
		if !same(kept, c.a) {
			t.Errorf("%s: the account was changed", c.name)
		}
	}
}

func TestNext(t *testing.T) {
	broken := example()
	broken.Entries[5].Number = 77
	for _, c := range []struct {
		a    api.Account
		want int
	}{{example(), 7}, {full(0), 1}, {api.Account{}, 1}, {broken, 78}, {full(mostEntries), 401}} {
		if got := Next(c.a, -3, 4, 5, -6, 7); got != entryOf(c.want, -3, 4, 5, -6, 7) {
			t.Errorf("%v, not the number %d", got, c.want)
		}
	}
}

// P23.3

func TestBalanceAndTotal(t *testing.T) {
	for _, c := range []struct {
		id, want int
		ok       bool
	}{{1, -20, true}, {2, 90, true}, {7, 5, true}, {0, 0, false}, {3, 0, false}, {-1, 0, false}, {1000, 0, false}} {
		if got, ok := Balance(example(), c.id); got != c.want || ok != c.ok {
			t.Errorf("balance of %d: %d, %v", c.id, got, ok)
		}
	}
	if got := Total(example()); got != 75 {
		t.Errorf("the total is %d", got)
	}
}

func TestAtAndFlow(t *testing.T) {
	for _, c := range []struct{ day, main, second, seventh int }{
		{math.MinInt, 0, 0, 0}, {9, 0, 0, 0}, {10, 40, 60, 0}, {11, 40, 60, 0}, {12, 10, 60, 10}, {13, -20, 90, 10}, {19, -20, 90, 10}, {20, -20, 90, 5}, {math.MaxInt, -20, 90, 5},
	} {
		want := []api.Sub{{ID: 1, Balance: c.main}, {ID: 2, Balance: c.second}, {ID: 7, Balance: c.seventh}}
		if got := At(example(), c.day); !slices.Equal(got, want) {
			t.Errorf("day %d: %v, not %v", c.day, got, want)
		}
	}
	for _, c := range []struct{ from, to, in, out int }{
		{0, lastDay, 110, 35}, {math.MinInt, math.MaxInt, 110, 35}, {10, 10, 100, 0}, {11, 12, 10, 30}, {10, 12, 110, 30}, {13, 19, 0, 0}, {12, 20, 10, 35}, {13, 20, 0, 5}, {20, 20, 0, 5}, {21, lastDay, 0, 0}, {12, 11, 0, 0},
	} {
		if in, out := Flow(example(), c.from, c.to); in != c.in || out != c.out {
			t.Errorf("from %d to %d: %d in, %d out", c.from, c.to, in, out)
		}
	}
}

// The consequences, and P1

func TestExample(t *testing.T) {
	a, _ := Open([]int{1}, 0)
	if _, e := Post(a, Next(a, 3, 1, 0, 1, 0)); e != api.ErrBalance {
		t.Errorf("error %d", e)
	}
	a, _ = Post(a, Next(a, 3, 0, 1, 1, 0))
	if a, e := Post(a, Next(a, 3, 1, 0, 1, 0)); e != api.OK || Total(a) != 0 {
		t.Errorf("%v, error %d", a, e)
	}
}

func TestRandomEntries(t *testing.T) {
	r := rand.New(rand.NewSource(231))
	for range 40 {
		credit := r.Intn(100)
		a, _ := Open([]int{1, 5, 9}, credit)
		balances := map[int]int{}
		day, total := 0, 0
		for range 120 {
			e := Next(a, day+r.Intn(3), []int{0, 1, 5, 9}[r.Intn(4)], []int{0, 1, 5, 9}[r.Intn(4)], 1+r.Intn(100), r.Intn(5))
			least := 0
			if e.From == 1 {
				least = -credit
			}
			want := api.OK
			if e.From == e.To {
				want = api.ErrSub
			} else if e.From > 0 && balances[e.From]-e.Amount < least {
				want = api.ErrBalance
			}
			next, got := Post(a, e)
			if got != want {
				t.Fatalf("%v on %v: error %d, not %d", e, balances, got, want)
			}
			if got != api.OK {
				continue
			}
			a, day = next, e.Day
			balances[e.From] -= e.Amount
			balances[e.To] += e.Amount
			if e.From == 0 {
				total += e.Amount
			} else if e.To == 0 {
				total -= e.Amount
			}
			in, out := Flow(a, 0, lastDay)
			if Check(a) != api.OK || Total(a) != total || in-out != total {
				t.Fatalf("the total is %d, not %d; %d in, %d out", Total(a), total, in, out)
			}
			for _, id := range []int{1, 5, 9} {
				if n, ok := Balance(a, id); n != balances[id] || !ok {
					t.Fatalf("the balance of %d is %d, not %d", id, n, balances[id])
				}
			}
		}
		splits(t, a, day)
	}
}

// splits fails unless the balances and flows of days follow from those of the days before.
func splits(t *testing.T, a api.Account, last int) {
	t.Helper()
	for day := range last + 1 {
		before, now := 0, 0
		for _, s := range At(a, day-1) {
			before += s.Balance
		}
		for _, s := range At(a, day) {
			now += s.Balance
		}
		if in, out := Flow(a, day, day); now-before != in-out {
			t.Fatalf("day %d: from %d to %d with %d in and %d out", day, before, now, in, out)
		}
	}
	if !slices.Equal(At(a, last), a.Subs) {
		t.Fatalf("%v, not %v", At(a, last), a.Subs)
	}
}

func TestTheLargestBalance(t *testing.T) {
	// No account has so many entries that a balance would be too large, so that the limit shows only in a replay of amounts.
	subs := []api.Sub{{ID: 1, Balance: mostTotal - 5}, {ID: 2, Balance: 10}}
	if e := carryOut(subs, 0, api.Entry{}, entryOf(1, 0, 2, 1, 6, 0)); e != api.ErrBalance {
		t.Errorf("error %d", e)
	}
	if e := carryOut(subs, 0, api.Entry{}, entryOf(1, 0, 2, 1, 5, 0)); e != api.OK || subs[0].Balance != mostTotal || subs[1].Balance != 5 {
		t.Errorf("%v, error %d", subs, e)
	}
}

func TestResultsAreNewMemory(t *testing.T) {
	a := example()
	kept := fmt.Sprint(a)
	got, _ := Post(a, Next(a, 20, 0, 1, 1, 0))
	again, _ := Post(a, Next(a, 20, 0, 2, 9, 0))
	got.Subs[0].Balance, got.Entries[0].Amount, again.Entries[6].Ref = 1, 2, 3
	At(a, 20)[0].Balance = 4
	if fmt.Sprint(a) != kept || got.Entries[6] != entryOf(7, 20, 0, 1, 1, 0) {
		t.Error("memory is shared")
	}
}
