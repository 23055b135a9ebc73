package consolidation

import (
	"fmt"
	"math"
	"math/rand"
	"slices"
	"testing"

	"treasury/api"
	"treasury/ledger"
)

// The limits are written out here as the document has them, so that a wrong one shows.
const (
	mostEntities = 10
	mostPostings = 400
	lastDay      = 36000
)

// books is a ledger with postings, which get their numbers.
func books(l ...api.Posting) api.Ledger {
	for i := range l {
		l[i].Number = i + 1
	}
	return api.Ledger{Postings: l}
}

// mutually is a posting of an entity about another one.
func mutually(day, entity, debit, credit, amount, partner, ref int) api.Posting {
	return api.Posting{Day: day, Entity: entity, Debit: debit, Credit: credit, Amount: amount, Partner: partner, Ref: ref}
}

func balance(account, amount int) api.Balance { return api.Balance{Account: account, Amount: amount} }

func difference(kind, a, b, ref, amount int) api.Difference {
	return api.Difference{Kind: kind, A: a, B: b, Ref: ref, Amount: amount}
}

func same(a, b api.Whole) bool {
	return slices.Equal(a.Balances, b.Balances) && a.Eliminated == b.Eliminated && slices.Equal(a.Differences, b.Differences)
}

// example: 1 lends 100 to 2 (which books 80), and sells it something for 30; 3 has paid 7 to 2, which has not booked it.
func example() api.Ledger {
	return books(
		mutually(5, 1, 140, 110, 100, 2, 9),
		mutually(6, 2, 110, 240, 80, 1, 9),
		mutually(7, 1, 110, 440, 30, 2, 4),
		mutually(7, 2, 540, 110, 30, 1, 4),
		mutually(8, 3, 540, 110, 7, 2, 0),
		mutually(9, 1, 110, 410, 1000, 0, 0),
	)
}

// P43.1

func TestCheck(t *testing.T) {
	broken := example()
	broken.Postings[3].Number = 9
	for _, c := range []struct {
		l     api.Ledger
		group []int
		want  api.Errno
	}{
		{example(), []int{1}, api.OK}, {example(), []int{1, 2, 3, 4, 5, 6, 7, 8, 9, 10}, api.OK}, {api.Ledger{}, []int{mostEntities}, api.OK}, {example(), []int{2, 7}, api.OK},
		{example(), nil, api.ErrEntity}, {example(), []int{}, api.ErrEntity}, {example(), []int{0}, api.ErrEntity}, {example(), []int{-1, 1}, api.ErrEntity}, {example(), []int{1, mostEntities + 1}, api.ErrEntity}, {example(), []int{1, 1}, api.ErrEntity}, {example(), []int{2, 1}, api.ErrEntity}, {example(), []int{1, 3, 2}, api.ErrEntity},
		{broken, nil, api.ErrLedger}, {api.Ledger{Postings: make([]api.Posting, 1)}, nil, api.ErrPosting}, {api.Ledger{Postings: make([]api.Posting, mostPostings+1)}, nil, api.ErrLimit},
	} {
		if e := Check(c.l, c.group); e != c.want {
			t.Errorf("%v: error %d, not %d", c.group, e, c.want)
		}
		if c.want == api.OK {
			continue
		}
		for _, day := range []int{-1, 9} {
			if got, e := Explain(c.l, c.group, day); e != c.want || len(got) > 0 {
				t.Errorf("%v, Explain: %v, error %d, not %d", c.group, got, e, c.want)
			}
			if got, e := Whole(c.l, c.group, day); e != c.want || !same(got, api.Whole{}) {
				t.Errorf("%v, Whole: %v, error %d, not %d", c.group, got, e, c.want)
			}
		}
	}
	for _, day := range []int{-1, lastDay + 1, math.MinInt, math.MaxInt} {
		if got, e := Explain(example(), []int{1, 2}, day); e != api.ErrRange || len(got) > 0 {
			t.Errorf("day %d: %v, error %d", day, got, e)
		}
		if got, e := Whole(example(), []int{1, 2}, day); e != api.ErrRange || !same(got, api.Whole{}) {
			t.Errorf("day %d: %v, error %d", day, got, e)
		}
	}
	for _, day := range []int{0, lastDay} {
		if _, e := Whole(example(), []int{1, 2}, day); e != api.OK {
			t.Errorf("day %d: error %d", day, e)
		}
	}
}

func TestPositions(t *testing.T) {
	l := books(
		mutually(5, 1, 140, 110, 100, 2, 9), mutually(5, 1, 140, 110, 1000, 3, 9), mutually(5, 1, 140, 110, 10000, 2, 8), mutually(6, 1, 110, 140, 40, 2, 9), mutually(6, 1, 140, 110, 5, 0, 9),
		mutually(6, 1, 110, 240, 70, 2, 9), mutually(6, 1, 110, 440, 30, 2, 9), mutually(6, 1, 540, 110, 20, 2, 9), mutually(6, 2, 540, 110, 7, 1, 9), mutually(6, 1, 140, 240, 3, 2, 9),
	)
	for _, c := range []struct {
		a, b, ref, day                int
		claim, debt, income, expenses int
	}{
		{1, 2, 9, 5, 100, 0, 0, 0}, {1, 2, 9, 6, 63, 73, 30, 20}, {1, 2, 9, math.MaxInt, 63, 73, 30, 20}, {1, 2, 9, 4, 0, 0, 0, 0}, {1, 2, 8, 6, 10000, 0, 0, 0}, {1, 3, 9, 6, 1000, 0, 0, 0}, {2, 1, 9, 6, 0, 0, 0, 7}, {1, 1, 9, 6, 0, 0, 0, 0}, {1, 2, 7, 6, 0, 0, 0, 0}, {4, 2, 9, 6, 0, 0, 0, 0}, {-1, 99, -9, 6, 0, 0, 0, 0},
	} {
		got := [4]int{Claim(l, c.a, c.b, c.ref, c.day), Debt(l, c.a, c.b, c.ref, c.day), Income(l, c.a, c.b, c.ref, c.day), Expense(l, c.a, c.b, c.ref, c.day)}
		if got != [4]int{c.claim, c.debt, c.income, c.expenses} {
			t.Errorf("%v: %v", c, got)
		}
	}
	l.Postings[9].Number = 5
	if Claim(l, 1, 2, 9, 5) != 0 || Debt(l, 1, 2, 9, 6) != 0 || Income(l, 1, 2, 9, 6) != 0 || Expense(l, 1, 2, 9, 6) != 0 {
		t.Error("a broken ledger")
	}
}

// P43.2

func TestWholeAndExplain(t *testing.T) {
	turned := books(mutually(5, 1, 110, 140, 50, 2, 9), mutually(5, 2, 240, 110, 50, 1, 9), mutually(5, 1, 440, 110, 5, 2, 9), mutually(5, 2, 110, 540, 5, 1, 9))
	mixed := books(
		mutually(5, 1, 140, 110, 5, 2, 1), mutually(5, 2, 240, 110, 3, 1, 1), mutually(5, 1, 110, 140, 2, 2, 2), mutually(5, 2, 110, 240, 3, 1, 2),
		mutually(5, 1, 110, 440, 7, 2, 1), mutually(5, 1, 110, 440, 6, 2, 2), mutually(5, 2, 110, 540, 11, 1, 2),
	)
	several := books(
		mutually(5, 2, 140, 110, 50, 1, 7), mutually(5, 1, 110, 240, 60, 2, 7), mutually(5, 2, 140, 110, 5, 1, 3), mutually(5, 1, 110, 240, 4, 2, 3),
		mutually(5, 3, 140, 110, 9, 1, 3), mutually(5, 1, 140, 110, 8, 3, 3), mutually(5, 2, 110, 440, 6, 3, 1), mutually(5, 3, 540, 110, 5, 2, 1), mutually(5, 1, 110, 440, 2, 2, 1),
	)
	for _, c := range []struct {
		name  string
		l     api.Ledger
		group []int
		day   int
		want  api.Whole
	}{
		{"nothing", api.Ledger{}, []int{1, 2}, 5, api.Whole{}},
		{"the example", example(), []int{1, 2}, 6, api.Whole{Balances: []api.Balance{balance(110, -20), balance(140, 20)}, Eliminated: 80, Differences: []api.Difference{difference(1, 1, 2, 9, 20)}}},
		{"before it is booked", example(), []int{1, 2}, 5, api.Whole{Balances: []api.Balance{balance(110, -100), balance(140, 100)}, Differences: []api.Difference{difference(1, 1, 2, 9, 100)}}},
		{"all of the example", example(), []int{1, 2, 3}, 9, api.Whole{Balances: []api.Balance{balance(110, 973), balance(140, 20), balance(410, -1000), balance(540, 7)}, Eliminated: 110, Differences: []api.Difference{difference(1, 1, 2, 9, 20), difference(2, 2, 3, 0, -7)}}},
		{"one entity", example(), []int{1}, 9, api.Whole{Balances: []api.Balance{balance(110, 930), balance(140, 100), balance(410, -1000), balance(440, -30)}}},
		{"without the one in between", example(), []int{1, 3}, 9, api.Whole{Balances: []api.Balance{balance(110, 923), balance(140, 100), balance(410, -1000), balance(440, -30), balance(540, 7)}}},
		{"the wrong sign", turned, []int{1, 2}, 5, api.Whole{Balances: []api.Balance{balance(140, -50), balance(240, 50), balance(440, 5), balance(540, -5)}}},
		{"one wrong sign", mixed, []int{1, 2}, 5, api.Whole{Balances: []api.Balance{balance(110, 21), balance(140, 3), balance(440, -13), balance(540, -11)}, Differences: []api.Difference{difference(1, 1, 2, 1, 8), difference(1, 1, 2, 2, -5), difference(2, 1, 2, 1, 7), difference(2, 1, 2, 2, 17)}}},
		{"several", several, []int{1, 2, 3}, 5, api.Whole{
			Balances:    []api.Balance{balance(110, -50+60-5+4-9-8+6-5+2), balance(140, 50-50+5-4+9+8), balance(240, -60+50-4+4), balance(440, -6+5-2), balance(540, 5-5)},
			Eliminated:  50 + 4 + 5,
			Differences: []api.Difference{difference(1, 1, 3, 3, 8), difference(1, 2, 1, 3, 1), difference(1, 2, 1, 7, -10), difference(1, 3, 1, 3, 9), difference(2, 1, 2, 1, 2), difference(2, 2, 3, 1, 1)},
		}},
	} {
		kept := fmt.Sprint(c.l, c.group)
		c.want.Balances = slices.DeleteFunc(c.want.Balances, func(b api.Balance) bool { return b.Amount == 0 })
		got, e := Whole(c.l, c.group, c.day)
		if e != api.OK || !same(got, c.want) || kept != fmt.Sprint(c.l, c.group) {
			t.Errorf("%s: %v, error %d, not %v", c.name, got, e, c.want)
		}
		if got, e := Explain(c.l, c.group, c.day); e != api.OK || !slices.Equal(got, c.want.Differences) {
			t.Errorf("%s: %v, error %d, not %v", c.name, got, e, c.want.Differences)
		}
	}
}

// The consequences

func TestRandomGroups(t *testing.T) {
	r := rand.New(rand.NewSource(431))
	accounts := []int{110, 140, 240, 440, 540, 410}
	for range 500 {
		var l []api.Posting
		honest := r.Intn(2) == 0
		for range r.Intn(12) {
			a, b, ref, amount := 1+r.Intn(3), 1+r.Intn(3), r.Intn(3), 1+r.Intn(50)
			if a == b {
				continue
			}
			if honest {
				l = append(l, mutually(5, a, 140, 110, amount, b, ref), mutually(5, b, 110, 240, amount, a, ref), mutually(5, a, 110, 440, amount, b, ref), mutually(5, b, 540, 110, amount, a, ref))
				continue
			}
			k := r.Perm(len(accounts))
			l = append(l, mutually(5, a, accounts[k[0]], accounts[k[1]], amount, b, ref))
		}
		books := books(l...)
		group := []int{1, 2, 3}
		if r.Intn(3) == 0 {
			group = group[1:]
		}
		w, e := Whole(books, group, 9)
		if e != api.OK {
			t.Fatalf("error %d", e)
		}
		sum := 0
		for _, b := range w.Balances {
			sum += b.Amount
			if honest && len(group) == 3 && b.Account != 110 {
				t.Fatalf("%v is left", b)
			}
		}
		if sum != 0 || honest && len(w.Differences) > 0 {
			t.Fatalf("%v", w)
		}
		for _, d := range w.Differences {
			want := Claim(books, d.A, d.B, d.Ref, 9) - Debt(books, d.B, d.A, d.Ref, 9)
			if d.Kind == 2 {
				want = Income(books, d.A, d.B, d.Ref, 9) - Expense(books, d.B, d.A, d.Ref, 9)
			}
			if d.Amount != want || want == 0 {
				t.Fatalf("%v, not %d", d, want)
			}
		}
		one, _ := Whole(books, []int{2}, 9)
		if one.Eliminated != 0 || len(one.Differences) > 0 || !slices.Equal(one.Balances, ledger.Balances(books, 2, 9)) {
			t.Fatalf("%v", one)
		}
	}
}
