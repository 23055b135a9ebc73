package ledger

import (
	"fmt"
	"math"
	"math/rand"
	"slices"
	"testing"

	"treasury/account"
	"treasury/api"
)

// The limits are written out here as the document has them, so that a wrong one shows.
const (
	mostAmount   = 1000000000000
	mostNumber   = 1000000
	mostEntities = 10
	mostPostings = 400
	mostEntries  = 400
	lastDay      = 36000
)

func posting(number, day, entity, debit, credit, amount int) api.Posting {
	return api.Posting{Number: number, Day: day, Entity: entity, Debit: debit, Credit: credit, Amount: amount}
}

// example is the books of the entities 1 and 2.
func example() api.Ledger {
	return api.Ledger{Postings: []api.Posting{
		posting(1, 5, 1, 110, 410, 100),
		posting(2, 5, 2, 110, 230, 500),
		posting(3, 9, 1, 510, 110, 30),
		posting(4, 9, 1, 110, 300, 7),
		posting(5, 12, 1, 120, 420, 40),
		posting(6, 12, 2, 520, 220, 9),
		posting(7, 20, 1, 410, 110, 100),
		posting(8, 20, 1, 199, 299, 3),
	}}
}

func same(a, b api.Ledger) bool { return slices.Equal(a.Postings, b.Postings) }

// crowd is a ledger with so many postings.
func crowd(n int) api.Ledger {
	var l api.Ledger
	for i := range n {
		l.Postings = append(l.Postings, posting(i+1, 5, 1, 110, 410, mostAmount))
	}
	return l
}

// P40.1

func TestPosting(t *testing.T) {
	large := api.Posting{Number: mostNumber, Day: lastDay, Entity: mostEntities, Debit: 599, Credit: 100, Amount: mostAmount, Partner: 9, Ref: mostNumber}
	other := posting(1, 0, 1, 100, 599, 1)
	other.Partner = mostEntities
	for _, p := range []api.Posting{posting(1, 0, 1, 100, 599, 1), large, other, example().Postings[0]} {
		if !Posting(p) {
			t.Errorf("%v", p)
		}
	}
	for i, change := range []func(p *api.Posting){
		func(p *api.Posting) { p.Number = 0 }, func(p *api.Posting) { p.Number = mostNumber + 1 }, func(p *api.Posting) { p.Day = -1 }, func(p *api.Posting) { p.Day = lastDay + 1 },
		func(p *api.Posting) { p.Entity = 0 }, func(p *api.Posting) { p.Entity = mostEntities + 1 }, func(p *api.Posting) { p.Debit = 99 }, func(p *api.Posting) { p.Debit = 600 }, func(p *api.Posting) { p.Credit = 99 }, func(p *api.Posting) { p.Credit = 600 }, func(p *api.Posting) { p.Credit = 110 },
		func(p *api.Posting) { p.Amount = 0 }, func(p *api.Posting) { p.Amount = -1 }, func(p *api.Posting) { p.Amount = mostAmount + 1 }, func(p *api.Posting) { p.Partner = -1 }, func(p *api.Posting) { p.Partner = mostEntities + 1 }, func(p *api.Posting) { p.Partner = 1 },
		func(p *api.Posting) { p.Ref = -1 }, func(p *api.Posting) { p.Ref = mostNumber + 1 }, func(p *api.Posting) { *p = api.Posting{} }, func(p *api.Posting) { p.Debit = math.MinInt },
	} {
		p := posting(9, 20, 1, 110, 410, 5)
		change(&p)
		l := example()
		l.Postings = append(l.Postings, p)
		if Posting(p) || Check(l) != api.ErrPosting {
			t.Errorf("%d: %v, error %d", i, Posting(p), Check(l))
		}
		if got, e := Post(example(), p); e != api.ErrPosting || !same(got, api.Ledger{}) {
			t.Errorf("%d, Post: %v, error %d", i, got, e)
		}
		fails(t, fmt.Sprint(i), l, api.ErrPosting)
	}
}

// fails fails unless all functions have the error of a ledger.
func fails(t *testing.T, name string, l api.Ledger, want api.Errno) {
	t.Helper()
	for _, p := range []api.Posting{{}, posting(len(l.Postings)+1, 20, 1, 110, 410, 5)} {
		if got, e := Post(l, p); e != want || !same(got, api.Ledger{}) {
			t.Errorf("%s, Post: %v, error %d, not %d", name, got, e, want)
		}
	}
	for _, entity := range []int{-1, 0, 1} {
		if got, e := Statement(l, entity, 0, 20); e != want || got != (api.Statement{}) {
			t.Errorf("%s, Statement: %v, error %d, not %d", name, got, e, want)
		}
	}
	if len(Balances(l, 1, 20)) > 0 || Of(l, 1, 110, 6) != 0 {
		t.Errorf("%s: %v, %d", name, Balances(l, 1, 20), Of(l, 1, 110, 6))
	}
}

func TestCheckAndPost(t *testing.T) {
	for name, l := range map[string]api.Ledger{"nothing": {}, "the example": example(), "400": crowd(mostPostings)} {
		if e := Check(l); e != api.OK {
			t.Errorf("%s: error %d", name, e)
		}
	}
	for name, c := range map[string]struct {
		change func(l *api.Ledger)
		want   api.Errno
	}{
		"401":                           {func(l *api.Ledger) { *l = crowd(mostPostings + 1) }, api.ErrLimit},
		"401 of nothing":                {func(l *api.Ledger) { l.Postings = make([]api.Posting, mostPostings+1) }, api.ErrLimit},
		"a number left out":             {func(l *api.Ledger) { l.Postings[7].Number = 9 }, api.ErrLedger},
		"a number twice":                {func(l *api.Ledger) { l.Postings[7].Number = 7 }, api.ErrLedger},
		"the first number":              {func(l *api.Ledger) { l.Postings = l.Postings[1:] }, api.ErrLedger},
		"a day that falls":              {func(l *api.Ledger) { l.Postings[7].Day = 19 }, api.ErrLedger},
		"a day that falls, and a class": {func(l *api.Ledger) { l.Postings[1].Day = 4; l.Postings[7].Debit = 99 }, api.ErrPosting},
	} {
		l := example()
		c.change(&l)
		if e := Check(l); e != c.want {
			t.Errorf("%s: error %d, not %d", name, e, c.want)
		}
		fails(t, name, l, c.want)
	}
	for _, c := range []struct {
		l    api.Ledger
		p    api.Posting
		want api.Errno
	}{
		{example(), posting(9, 20, 3, 110, 410, 5), api.OK}, {example(), posting(9, lastDay, 3, 110, 410, 5), api.OK}, {api.Ledger{}, posting(1, 0, 3, 110, 410, 5), api.OK}, {crowd(mostPostings - 1), posting(mostPostings, 5, 3, 110, 410, 5), api.OK},
		{crowd(mostPostings), posting(mostPostings, 4, 3, 110, 410, 5), api.ErrLimit}, {crowd(mostPostings), posting(mostPostings+1, 5, 3, 110, 110, 5), api.ErrPosting},
		{example(), posting(8, 19, 3, 110, 410, 5), api.ErrKnown}, {example(), posting(10, 20, 3, 110, 410, 5), api.ErrKnown}, {api.Ledger{}, posting(2, 20, 3, 110, 410, 5), api.ErrKnown},
		{example(), posting(9, 19, 3, 110, 410, 5), api.ErrOrder}, {crowd(1), posting(2, 4, 3, 110, 410, 5), api.ErrOrder},
	} {
		kept := slices.Clone(c.l.Postings)
		got, e := Post(c.l, c.p)
		want := api.Ledger{}
		if c.want == api.OK {
			want.Postings = append(slices.Clone(kept), c.p)
		}
		if e != c.want || !same(got, want) || !slices.Equal(kept, c.l.Postings) {
			t.Errorf("%v: error %d, not %d", c.p, e, c.want)
		}
	}
	l := example()
	got, _ := Post(l, posting(9, 20, 3, 110, 410, 5))
	got.Postings[0].Amount = -1
	if !same(l, example()) {
		t.Error("memory is shared")
	}
}

func TestClass(t *testing.T) {
	for account, want := range map[int]int{100: 1, 199: 1, 200: 2, 299: 2, 300: 3, 399: 3, 400: 4, 499: 4, 500: 5, 599: 5, 99: 0, 600: 0, 0: 0, -100: 0, 1000: 0, math.MinInt: 0, math.MaxInt: 0} {
		if got := Class(account); got != want {
			t.Errorf("%d: %d, not %d", account, got, want)
		}
	}
}

// P40.2

func TestBalances(t *testing.T) {
	l := example()
	for _, c := range []struct {
		entity, day int
		want        []api.Balance
	}{
		{1, 4, nil}, {1, 5, []api.Balance{{Account: 110, Amount: 100}, {Account: 410, Amount: -100}}}, {1, 8, []api.Balance{{Account: 110, Amount: 100}, {Account: 410, Amount: -100}}},
		{1, 9, []api.Balance{{Account: 110, Amount: 77}, {Account: 300, Amount: -7}, {Account: 410, Amount: -100}, {Account: 510, Amount: 30}}},
		{1, 20, []api.Balance{{Account: 110, Amount: -23}, {Account: 120, Amount: 40}, {Account: 199, Amount: 3}, {Account: 299, Amount: -3}, {Account: 300, Amount: -7}, {Account: 420, Amount: -40}, {Account: 510, Amount: 30}}},
		{2, 12, []api.Balance{{Account: 110, Amount: 500}, {Account: 220, Amount: -9}, {Account: 230, Amount: -500}, {Account: 520, Amount: 9}}},
		{0, 5, []api.Balance{{Account: 110, Amount: 600}, {Account: 230, Amount: -500}, {Account: 410, Amount: -100}}},
		{3, 20, nil}, {-1, 20, nil}, {mostEntities + 1, 20, nil}, {1, math.MinInt, nil}, {0, -1, nil}, {2, math.MaxInt, []api.Balance{{Account: 110, Amount: 500}, {Account: 220, Amount: -9}, {Account: 230, Amount: -500}, {Account: 520, Amount: 9}}},
	} {
		got := Balances(l, c.entity, c.day)
		if !slices.Equal(got, c.want) {
			t.Errorf("%d on %d: %v, not %v", c.entity, c.day, got, c.want)
		}
		for account := 90; account < 610; account++ {
			want := 0
			for _, b := range c.want {
				if b.Account == account {
					want = b.Amount
				}
			}
			if n := Of(l, c.entity, account, c.day); n != want {
				t.Errorf("%d of %d on %d: %d, not %d", account, c.entity, c.day, n, want)
			}
		}
	}
	if Of(l, 1, math.MinInt, 20) != 0 || Of(crowd(mostPostings), 0, 110, 5) != mostPostings*mostAmount {
		t.Error("the ends")
	}
}

func TestStatement(t *testing.T) {
	l := example()
	for _, c := range []struct {
		entity, from, to int
		want             api.Statement
	}{
		{1, 0, lastDay, api.Statement{Assets: 20, Liabilities: 3, Worth: 0, Revenue: 40, Expense: 30}},
		{1, 5, 9, api.Statement{Assets: 77, Revenue: 100, Expense: 30}},
		{1, 6, 9, api.Statement{Assets: 77, Worth: 100, Expense: 30}},
		{1, 9, 9, api.Statement{Assets: 77, Worth: 100, Expense: 30}},
		{1, 10, 20, api.Statement{Assets: 20, Liabilities: 3, Worth: 77, Revenue: -60}},
		{1, 13, 13, api.Statement{Assets: 117, Worth: 117}},
		{2, 6, 12, api.Statement{Assets: 500, Liabilities: 509, Expense: 9}},
		{2, 13, 20, api.Statement{Assets: 500, Liabilities: 509, Worth: -9}},
		{0, 6, 12, api.Statement{Assets: 617, Liabilities: 509, Worth: 100, Revenue: 40, Expense: 39}},
		{3, 0, 0, api.Statement{}}, {mostEntities, lastDay, lastDay, api.Statement{}},
	} {
		if got, e := Statement(l, c.entity, c.from, c.to); e != api.OK || got != c.want {
			t.Errorf("%d, %d to %d: %v, error %d, not %v", c.entity, c.from, c.to, got, e, c.want)
		}
	}
	for _, c := range []struct {
		entity, from, to int
		want             api.Errno
	}{
		{-1, 0, 9, api.ErrEntity}, {mostEntities + 1, 5, 2, api.ErrEntity}, {math.MinInt, -1, 9, api.ErrEntity},
		{1, -1, 9, api.ErrRange}, {1, 9, 8, api.ErrRange}, {1, 0, lastDay + 1, api.ErrRange}, {1, lastDay + 1, lastDay + 1, api.ErrRange}, {1, 0, -1, api.ErrRange}, {0, math.MinInt, math.MaxInt, api.ErrRange},
	} {
		if got, e := Statement(l, c.entity, c.from, c.to); e != c.want || got != (api.Statement{}) {
			t.Errorf("%d, %d to %d: %v, error %d, not %d", c.entity, c.from, c.to, got, e, c.want)
		}
	}
}

// P40.3

func TestEntries(t *testing.T) {
	a, e := account.Open([]int{1, 2}, 50)
	if e != api.OK {
		t.Fatalf("error %d", e)
	}
	for _, x := range [][5]int{{3, 0, 2, 100, 7}, {4, 2, 1, 30, 0}, {4, 2, 0, 60, 8}, {9, 1, 0, 5, 0}, {9, 0, 1, 2, mostNumber}} {
		if a, e = account.Post(a, account.Next(a, x[0], x[1], x[2], x[3], x[4])); e != api.OK {
			t.Fatalf("error %d", e)
		}
	}
	want := func(entity, first int) []api.Posting {
		return []api.Posting{
			{Number: first, Day: 3, Entity: entity, Debit: 110, Credit: 410, Amount: 100, Ref: 7},
			{Number: first + 1, Day: 4, Entity: entity, Debit: 510, Credit: 110, Amount: 60, Ref: 8},
			{Number: first + 2, Day: 9, Entity: entity, Debit: 510, Credit: 110, Amount: 5},
			{Number: first + 3, Day: 9, Entity: entity, Debit: 110, Credit: 410, Amount: 2, Ref: mostNumber},
		}
	}
	for _, c := range [][2]int{{1, 1}, {mostEntities, mostNumber - mostEntries}, {4, 77}} {
		if got := Entries(a, c[0], c[1]); !slices.Equal(got, want(c[0], c[1])) {
			t.Errorf("%v: %v", c, got)
		}
	}
	for _, c := range [][2]int{{0, 1}, {-1, 1}, {mostEntities + 1, 1}, {1, 0}, {1, -1}, {1, mostNumber - mostEntries + 1}, {1, math.MaxInt}} {
		if got := Entries(a, c[0], c[1]); len(got) > 0 {
			t.Errorf("%v: %v", c, got)
		}
	}
	if e := Check(api.Ledger{Postings: Entries(a, 1, 1)}); e != api.OK {
		t.Errorf("error %d", e)
	}
	a.Subs[0].Balance++
	if got := Entries(a, 1, 1); len(got) > 0 {
		t.Errorf("%v of a broken account", got)
	}
}

func TestTurn(t *testing.T) {
	p := api.Posting{Number: 3, Day: 9, Entity: 4, Debit: 520, Credit: 220, Amount: 7, Partner: 2, Ref: 5}
	want := api.Posting{Number: -8, Day: math.MaxInt, Entity: 4, Debit: 220, Credit: 520, Amount: 7, Partner: 2, Ref: 5}
	if got := Turn(p, -8, math.MaxInt); got != want {
		t.Errorf("%v", got)
	}
	if got := Turn(Turn(p, 1, 1), 3, 9); got != p {
		t.Errorf("%v", got)
	}
}

// The consequences

func TestRandomLedgers(t *testing.T) {
	r := rand.New(rand.NewSource(401))
	accounts := []int{110, 120, 210, 230, 300, 399, 410, 420, 510, 520}
	for range 300 {
		var l api.Ledger
		day := 0
		for i := range r.Intn(40) {
			k := r.Perm(len(accounts))
			day += r.Intn(4)
			var e api.Errno
			if l, e = Post(l, posting(i+1, day, 1+r.Intn(3), accounts[k[0]], accounts[k[1]], 1+r.Intn(1000))); e != api.OK {
				t.Fatalf("error %d", e)
			}
		}
		for entity := range 4 {
			sum, own := 0, 0
			for _, b := range Balances(l, entity, day) {
				sum += b.Amount
			}
			from := r.Intn(40)
			to := from + r.Intn(40)
			s, e := Statement(l, entity, from, to)
			for _, p := range l.Postings {
				if from <= p.Day && p.Day <= to && (entity == 0 || p.Entity == entity) {
					if p.Credit/100 == 3 {
						own += p.Amount
					}
					if p.Debit/100 == 3 {
						own -= p.Amount
					}
				}
			}
			if sum != 0 || e != api.OK || s.Assets-s.Liabilities != s.Worth+s.Revenue-s.Expense+own {
				t.Fatalf("%d: %d, %v, error %d", entity, sum, s, e)
			}
		}
	}
}
