package receipt

import (
	"fmt"
	"math"
	"math/rand"
	"slices"
	"testing"

	"treasury/api"
)

// The limits are written out here as the document has them, so that a wrong one shows.
const (
	mostAmount  = 1000000000000
	mostNumber  = 1000000
	mostClaims  = 60
	mostIncomes = 100
	lastDay     = 36000
)

// owes is a claim on a payer, of which nothing has been received.
func owes(id, payer, amount, day int) api.Claim {
	return api.Claim{ID: id, Payer: payer, Amount: amount, Open: amount, Day: day, Code: "4.1"}
}

// open is a claim on a payer of which a part is open.
func open(id, payer, amount, left, day int) api.Claim {
	c := owes(id, payer, amount, day)
	c.Open = left
	return c
}

func income(number, day, payer, amount, claim int) api.Income {
	return api.Income{Number: number, Day: day, Payer: payer, Amount: amount, Claim: claim}
}

// example is cash of the payers 1 and 2, and of the payer 3 who has no claims.
func example() api.Cash {
	return api.Cash{
		Claims:  []api.Claim{open(2, 1, 100, 40, 7), open(4, 2, 50, 0, 9), open(7, 1, 30, 30, 3)},
		Incomes: []api.Income{income(1, 5, 1, 60, 0), income(3, 5, 2, 70, 4), income(9, 8, 3, 15, 7)},
		Matches: []api.Match{{Income: 1, Claim: 2, Amount: 60}, {Income: 3, Claim: 4, Amount: 50}},
		Loose:   []int{0, 12, 15},
	}
}

func same(a, b api.Cash) bool {
	return slices.Equal(a.Claims, b.Claims) && slices.Equal(a.Incomes, b.Incomes) && slices.Equal(a.Matches, b.Matches) && slices.Equal(a.Loose, b.Loose)
}

// P27.1

func TestClaim(t *testing.T) {
	good := owes(1, 1, 1, 0)
	large := api.Claim{ID: mostNumber, Payer: mostNumber, Amount: mostAmount, Open: 0, Day: lastDay, Code: "99.99.99.99"}
	short := good
	short.Code = "4"
	for _, c := range []api.Claim{good, large, short, open(5, 5, 10, 10, 5), open(5, 5, 10, 0, 5)} {
		if !Claim(c) {
			t.Errorf("%v", c)
		}
	}
	for i, change := range []func(c *api.Claim){
		func(c *api.Claim) { c.ID = 0 }, func(c *api.Claim) { c.ID = mostNumber + 1 },
		func(c *api.Claim) { c.Payer = 0 }, func(c *api.Claim) { c.Payer = mostNumber + 1 },
		func(c *api.Claim) { c.Amount, c.Open = 0, 0 }, func(c *api.Claim) { c.Amount = mostAmount + 1 },
		func(c *api.Claim) { c.Open = -1 }, func(c *api.Claim) { c.Open = 2 },
		func(c *api.Claim) { c.Day = -1 }, func(c *api.Claim) { c.Day = lastDay + 1 },
		func(c *api.Claim) { c.Code = "" }, func(c *api.Claim) { c.Code = "4.0" }, func(c *api.Claim) { c.Code = "1.1.1.1.1" },
		func(c *api.Claim) { *c = api.Claim{} }, func(c *api.Claim) { c.Amount = math.MinInt },
	} {
		c := good
		change(&c)
		if Claim(c) {
			t.Errorf("%d: %v", i, c)
		}
		if got, e := New([]api.Claim{c}); e != api.ErrClaim || !same(got, api.Cash{}) {
			t.Errorf("%d, New: %v, error %d", i, got, e)
		}
		if e := Check(api.Cash{Claims: []api.Claim{c}}); e != api.ErrClaim {
			t.Errorf("%d, Check: error %d", i, e)
		}
		if got, e := Add(example(), c); e != api.ErrClaim || !same(got, api.Cash{}) {
			t.Errorf("%d, Add: %v, error %d", i, got, e)
		}
	}
}

// claims returns so many claims on the payer 1.
func claims(n int) []api.Claim {
	var l []api.Claim
	for i := range n {
		l = append(l, owes(i+1, 1, 5, i))
	}
	return l
}

// incomes is cash with claims, and so many incomes of the payer 2 with nothing loose.
func incomes(n int, l ...api.Claim) api.Cash {
	c := api.Cash{Claims: l}
	for i := range n {
		c.Incomes = append(c.Incomes, income(i+1, 5, 2, 5, 0))
	}
	c.Loose = make([]int, n)
	return c
}

// pieces is cash with a claim on the payer 1 that was received in so many matches of one income, of which something is loose.
func pieces(n, claim, loose int) api.Cash {
	c := api.Cash{Claims: []api.Claim{open(1, 1, claim, claim-n, 0)}, Incomes: []api.Income{income(1, 0, 1, n+loose, 0)}, Loose: []int{loose}}
	c.Matches = slices.Repeat([]api.Match{{Income: 1, Claim: 1, Amount: 1}}, n)
	return c
}

func TestCheck(t *testing.T) {
	for name, c := range map[string]api.Cash{"the example": example(), "nothing": {}, "60 claims": {Claims: claims(mostClaims)}, "100 incomes": incomes(mostIncomes), "160 matches": pieces(160, 200, 0), "160 matches, and loose": pieces(160, 160, 7)} {
		if e := Check(c); e != api.OK {
			t.Errorf("%s: error %d", name, e)
		}
	}
	for name, c := range wrong() {
		x := example()
		c.change(&x)
		if e := Check(x); e != c.want {
			t.Errorf("%s: error %d, not %d", name, e, c.want)
		}
		if got, e := Add(x, api.Claim{}); e != c.want || !same(got, api.Cash{}) {
			t.Errorf("%s, Add: %v, error %d", name, got, e)
		}
		if got, m, e := Take(x, api.Income{}); e != c.want || !same(got, api.Cash{}) || len(m) > 0 {
			t.Errorf("%s, Take: %v, %v, error %d", name, got, m, e)
		}
		if got, n, e := Refund(x, 9); e != c.want || !same(got, api.Cash{}) || n != 0 {
			t.Errorf("%s, Refund: %v, %d, error %d", name, got, n, e)
		}
		if Loose(x, 2) != 0 || Owed(x, 1) != 0 {
			t.Errorf("%s: %d is loose, %d owed", name, Loose(x, 2), Owed(x, 1))
		}
	}
}

// change makes the example cash with an error.
type change = struct {
	change func(c *api.Cash)
	want   api.Errno
}

func wrong() map[string]change {
	bad := func(do func(c *api.Cash)) change { return change{do, api.ErrIncome} }
	l := map[string]change{
		"61 claims":                       {func(c *api.Cash) { c.Claims = claims(mostClaims + 1) }, api.ErrLimit},
		"101 incomes":                     {func(c *api.Cash) { *c = incomes(mostIncomes + 1) }, api.ErrLimit},
		"161 matches":                     {func(c *api.Cash) { *c = pieces(161, 200, 0) }, api.ErrLimit},
		"61 claims that are not valid":    {func(c *api.Cash) { c.Claims = make([]api.Claim, mostClaims+1) }, api.ErrLimit},
		"a claim that is not valid":       {func(c *api.Cash) { c.Claims[2].Day = -1 }, api.ErrClaim},
		"claims out of order":             {func(c *api.Cash) { c.Claims[0], c.Claims[1] = c.Claims[1], c.Claims[0] }, api.ErrClaim},
		"a claim twice":                   {func(c *api.Cash) { c.Claims[2].ID = 4 }, api.ErrClaim},
		"a claim and an income":           {func(c *api.Cash) { c.Claims[2].ID = 4; c.Incomes[0].Day = -1 }, api.ErrClaim},
		"the first two out of order":      bad(func(c *api.Cash) { c.Incomes[0].Number, c.Matches[0].Income = 5, 5 }),
		"the first two on days that fall": bad(func(c *api.Cash) { c.Incomes[0].Day = 6 }),
		"an income given away twice": bad(func(c *api.Cash) {
			*c = api.Cash{Claims: []api.Claim{open(1, 1, 9, 3, 0), open(2, 1, 9, 3, 0)}, Incomes: []api.Income{income(1, 0, 1, 10, 0)}, Loose: []int{0}, Matches: matches(way{1, 1, 6}, way{1, 2, 6})}
		}),
		"incomes out of order":       bad(func(c *api.Cash) { c.Incomes[2].Number = 2 }),
		"an income twice":            bad(func(c *api.Cash) { c.Incomes[2].Number = 3 }),
		"days that fall":             bad(func(c *api.Cash) { c.Incomes[2].Day = 4 }),
		"less loose":                 bad(func(c *api.Cash) { c.Loose = c.Loose[:2] }),
		"more loose":                 bad(func(c *api.Cash) { c.Loose = append(c.Loose, 0) }),
		"less than nothing loose":    bad(func(c *api.Cash) { c.Loose[0] = -1 }),
		"more than the income loose": bad(func(c *api.Cash) { c.Loose[2] = 16 }),
		"much more loose":            bad(func(c *api.Cash) { c.Loose[2] = math.MaxInt }),
		"what was matched is loose":  bad(func(c *api.Cash) { c.Loose[0] = 1 }),
		"a match of no claim":        bad(func(c *api.Cash) { c.Matches[0].Claim = 3 }),
		"a match of no income":       bad(func(c *api.Cash) { c.Matches[0].Income = 2 }),
		"a match of another payer": bad(func(c *api.Cash) {
			c.Matches = append(c.Matches, api.Match{Income: 9, Claim: 7, Amount: 5})
			c.Claims[2].Open = 25
			c.Loose[2] = 0
		}),
		"a match of 0": bad(func(c *api.Cash) { c.Matches = append(c.Matches, api.Match{Income: 1, Claim: 2}) }),
		"a match below 0": bad(func(c *api.Cash) {
			c.Matches = append(c.Matches, api.Match{Income: 1, Claim: 2, Amount: -5})
			c.Claims[0].Open += 5
		}),
		"a match of too much":          bad(func(c *api.Cash) { c.Matches[1].Amount = 51 }),
		"a match of too little":        bad(func(c *api.Cash) { c.Matches[1].Amount = 49 }),
		"a match missing":              bad(func(c *api.Cash) { c.Matches = c.Matches[:1] }),
		"too much open":                bad(func(c *api.Cash) { c.Claims[0].Open = 41 }),
		"too little open":              bad(func(c *api.Cash) { c.Claims[0].Open = 39 }),
		"more than the income matched": bad(func(c *api.Cash) { c.Matches[0].Amount = 61; c.Claims[0].Open = 39 }),
		"matches that wrap": bad(func(c *api.Cash) {
			c.Matches = append(c.Matches, api.Match{Income: 1, Claim: 2, Amount: math.MaxInt}, api.Match{Income: 1, Claim: 2, Amount: math.MaxInt}, api.Match{Income: 1, Claim: 2, Amount: 2})
		}),
	}
	for name, do := range map[string]func(x *api.Income){
		"number 0":  func(x *api.Income) { x.Number = 0 },
		"payer 0":   func(x *api.Income) { x.Payer = 0 },
		"payer":     func(x *api.Income) { x.Payer = mostNumber + 1 },
		"day -1":    func(x *api.Income) { x.Day = -1 },
		"amount 0":  func(x *api.Income) { x.Amount = 0 },
		"amount":    func(x *api.Income) { x.Amount = mostAmount + 1 },
		"claim -1":  func(x *api.Income) { x.Claim = -1 },
		"claim":     func(x *api.Income) { x.Claim = mostNumber + 1 },
		"last day":  func(x *api.Income) { x.Day = lastDay + 1 },
		"number -5": func(x *api.Income) { x.Number = -5 },
	} {
		l["an income with the "+name] = bad(func(c *api.Cash) { *c = incomes(1); do(&c.Incomes[0]); c.Loose[0] = 0 })
	}
	l["an income with the number"] = bad(func(c *api.Cash) { *c = incomes(2); c.Incomes[1].Number = mostNumber + 1 })
	return l
}

func TestNew(t *testing.T) {
	for _, n := range []int{0, 1, mostClaims} {
		l := claims(n)
		got, e := New(l)
		if e != api.OK || !same(got, api.Cash{Claims: l}) {
			t.Errorf("%d claims: %v, error %d", n, got, e)
		}
		if n > 0 {
			got.Claims[0].Open = 0
			if l[0].Open != 5 {
				t.Error("memory is shared")
			}
		}
	}
	for name, c := range map[string]struct {
		l    []api.Claim
		want api.Errno
	}{
		"61":              {claims(mostClaims + 1), api.ErrLimit},
		"61 of nothing":   {make([]api.Claim, mostClaims+1), api.ErrLimit},
		"twice":           {[]api.Claim{owes(1, 1, 5, 0), owes(1, 1, 5, 0)}, api.ErrClaim},
		"out of order":    {[]api.Claim{owes(2, 1, 5, 0), owes(1, 1, 5, 0)}, api.ErrClaim},
		"received":        {[]api.Claim{owes(1, 1, 5, 0), open(2, 1, 5, 4, 0)}, api.ErrClaim},
		"received in all": {[]api.Claim{open(2, 1, 5, 0, 0)}, api.ErrClaim},
	} {
		if got, e := New(c.l); e != c.want || !same(got, api.Cash{}) {
			t.Errorf("%s: %v, error %d, not %d", name, got, e, c.want)
		}
	}
}

// P27.2

// way is the income, the claim and the amount of a match.
type way [3]int

func matches(l ...way) []api.Match {
	var all []api.Match
	for _, w := range l {
		all = append(all, api.Match{Income: w[0], Claim: w[1], Amount: w[2]})
	}
	return all
}

func TestTake(t *testing.T) {
	for _, c := range []struct {
		name   string
		claims []api.Claim
		x      api.Income
		want   []api.Match
		loose  int
	}{
		{"no claims", nil, income(1, 5, 1, 9, 0), nil, 9},
		{"claims on others", []api.Claim{owes(1, 2, 9, 0)}, income(1, 5, 1, 9, 1), nil, 9},
		{"the only one", []api.Claim{owes(1, 1, 9, 0)}, income(1, 5, 1, 9, 0), matches(way{1, 1, 9}), 0},
		{"too little", []api.Claim{owes(1, 1, 9, 0)}, income(1, 5, 1, 4, 0), matches(way{1, 1, 4}), 0},
		{"too much", []api.Claim{owes(1, 1, 9, 0)}, income(1, 5, 1, 10, 0), matches(way{1, 1, 9}), 1},
		{"the example", []api.Claim{owes(1, 1, 5, 0), owes(2, 1, 7, 0)}, income(1, 5, 1, 7, 0), matches(way{1, 2, 7}), 0},
		{"by their days", []api.Claim{owes(1, 1, 5, 9), owes(2, 1, 7, 8), owes(3, 1, 8, 7)}, income(1, 5, 1, 10, 0), matches(way{1, 3, 8}, way{1, 2, 2}), 0},
		{"by their IDs on a day", []api.Claim{owes(1, 1, 5, 9), owes(2, 1, 7, 8), owes(3, 1, 8, 8)}, income(1, 5, 1, 16, 0), matches(way{1, 2, 7}, way{1, 3, 8}, way{1, 1, 1}), 0},
		{"the one that is named", []api.Claim{owes(1, 1, 5, 0), owes(2, 1, 7, 0)}, income(1, 5, 1, 5, 2), matches(way{1, 2, 5}), 0},
		{"the named one, then by days", []api.Claim{owes(1, 1, 5, 2), owes(2, 1, 7, 1), owes(3, 1, 4, 9)}, income(1, 5, 1, 20, 3), matches(way{1, 3, 4}, way{1, 2, 7}, way{1, 1, 5}), 4},
		{"no exact one behind a named one", []api.Claim{owes(1, 1, 5, 2), owes(2, 1, 7, 1), owes(3, 1, 12, 9)}, income(1, 5, 1, 12, 1), matches(way{1, 1, 5}, way{1, 2, 7}), 0},
		{"another's one is named", []api.Claim{owes(1, 2, 5, 2), owes(2, 1, 7, 1), owes(3, 1, 5, 9)}, income(1, 5, 1, 5, 1), matches(way{1, 3, 5}), 0},
		{"one that is not there is named", []api.Claim{owes(2, 1, 7, 1), owes(3, 1, 5, 9)}, income(1, 5, 1, 5, 1), matches(way{1, 3, 5}), 0},
		{"two exact ones", []api.Claim{owes(1, 1, 9, 1), owes(2, 1, 5, 7), owes(3, 1, 5, 6)}, income(1, 5, 1, 5, 0), matches(way{1, 1, 5}), 0},
		{"an exact one of another payer", []api.Claim{owes(1, 1, 9, 1), owes(2, 1, 5, 7), owes(3, 2, 5, 6)}, income(1, 5, 1, 5, 0), matches(way{1, 2, 5}), 0},
		{"the largest ones", []api.Claim{owes(1, mostNumber, mostAmount, lastDay)}, income(mostNumber, lastDay, mostNumber, mostAmount, mostNumber), matches(way{mostNumber, 1, mostAmount}), 0},
	} {
		before, e := New(c.claims)
		if e != api.OK {
			t.Fatalf("%s: error %d", c.name, e)
		}
		taken(t, c.name, before, c.x, c.want, c.loose)
	}
	// What is open counts, not the amount; what is named and received in full is not matched.
	part := example()
	taken(t, "an exact rest", part, income(10, 8, 1, 40, 0), matches(way{10, 2, 40}), 0)
	taken(t, "an exact amount that is not open", part, income(10, 8, 1, 100, 0), matches(way{10, 7, 30}, way{10, 2, 40}), 30)
	taken(t, "a received one is named", part, income(10, 8, 2, 50, 4), nil, 50)
	part.Claims = append(part.Claims, owes(8, 2, 5, 0), owes(9, 2, 6, 1))
	taken(t, "a received one is named, and an exact one is there", part, income(10, 8, 2, 6, 4), matches(way{10, 9, 6}), 0)
	part.Claims = append(part.Claims, owes(11, 1, 40, 2))
	taken(t, "two exact rests", part, income(10, 8, 1, 40, 0), matches(way{10, 11, 40}), 0)
}

// taken fails unless an income is matched as wanted.
func taken(t *testing.T, name string, c api.Cash, x api.Income, want []api.Match, loose int) {
	t.Helper()
	kept := fmt.Sprint(c)
	got, made, e := Take(c, x)
	if e != api.OK || !slices.Equal(made, want) || Check(got) != api.OK {
		t.Errorf("%s: %v, error %d, not %v", name, made, e, want)
		return
	}
	next := api.Cash{Claims: slices.Clone(c.Claims), Incomes: append(slices.Clone(c.Incomes), x), Matches: append(slices.Clone(c.Matches), want...), Loose: append(slices.Clone(c.Loose), loose)}
	for _, m := range want {
		for i := range next.Claims {
			if next.Claims[i].ID == m.Claim {
				next.Claims[i].Open -= m.Amount
			}
		}
	}
	if !same(got, next) {
		t.Errorf("%s: %v, not %v", name, got, next)
	}
	for i := range made {
		made[i].Amount = -1
	}
	if !same(got, next) || kept != fmt.Sprint(c) {
		t.Errorf("%s: memory is shared, or the cash was changed", name)
	}
}

func TestErrorsOfTake(t *testing.T) {
	for _, c := range []struct {
		name string
		c    api.Cash
		x    api.Income
		want api.Errno
	}{
		{"the number of the only one", incomes(1), income(1, 5, 1, 5, 0), api.ErrKnown},
		{"the day before the only one", incomes(1), income(2, 4, 1, 5, 0), api.ErrOrder},
		{"not valid", example(), api.Income{}, api.ErrIncome},
		{"no amount", example(), income(1, 0, 1, 0, 0), api.ErrIncome},
		{"too much", example(), income(10, 9, 1, mostAmount+1, 0), api.ErrIncome},
		{"a claim below 0", example(), income(10, 9, 1, 5, -1), api.ErrIncome},
		{"no payer", example(), income(10, 9, 0, 5, 0), api.ErrIncome},
		{"too late", example(), income(10, lastDay+1, 1, 5, 0), api.ErrIncome},
		{"too great a number", example(), income(mostNumber+1, 9, 1, 5, 0), api.ErrIncome},
		{"the last number", example(), income(9, 9, 1, 5, 0), api.ErrKnown},
		{"a lesser number", example(), income(2, 5, 1, 5, 0), api.ErrKnown},
		{"a day before", example(), income(10, 7, 1, 5, 0), api.ErrOrder},
		{"the same day", example(), income(10, 8, 1, 5, 0), api.OK},
		{"a number left out", example(), income(50, 9, 1, 5, 0), api.OK},
		{"99 incomes", incomes(mostIncomes - 1), income(100, 5, 1, 5, 0), api.OK},
		{"100 incomes", incomes(mostIncomes), income(101, 5, 1, 5, 0), api.ErrLimit},
		{"100 incomes, and a day before", incomes(mostIncomes), income(101, 4, 1, 5, 0), api.ErrOrder},
		{"159 matches", pieces(159, 200, 0), income(2, 5, 1, 5, 0), api.OK},
		{"160 matches", pieces(160, 200, 0), income(2, 5, 1, 5, 0), api.ErrLimit},
		{"160 matches, and none more", pieces(160, 200, 0), income(2, 5, 2, 5, 0), api.OK},
	} {
		kept := fmt.Sprint(c.c)
		got, m, e := Take(c.c, c.x)
		if e != c.want || kept != fmt.Sprint(c.c) || e != api.OK && (!same(got, api.Cash{}) || len(m) > 0) {
			t.Errorf("%s: %v, %v, error %d, not %d", c.name, got, m, e, c.want)
		}
	}
}

// P27.3

func TestAdd(t *testing.T) {
	loose := incomes(5)
	for i := range loose.Incomes {
		loose.Incomes[i].Payer = 1 + i%2
		loose.Loose[i] = i
	}
	// Of the payer 1 are 0, 2 and 4 loose, of the payer 2 are 1 and 3.
	for _, c := range []struct {
		name  string
		x     api.Claim
		want  []api.Match
		left  int
		loose []int
	}{
		{"nobody's", owes(5, 3, 9, 0), nil, 9, []int{0, 1, 2, 3, 4}},
		{"all of it", owes(5, 1, 9, 0), matches(way{3, 5, 2}, way{5, 5, 4}), 3, []int{0, 1, 0, 3, 0}},
		{"just all of it", owes(5, 1, 6, 0), matches(way{3, 5, 2}, way{5, 5, 4}), 0, []int{0, 1, 0, 3, 0}},
		{"a part of it", owes(5, 2, 3, 0), matches(way{2, 5, 1}, way{4, 5, 2}), 0, []int{0, 0, 2, 1, 4}},
		{"the first one alone", owes(5, 2, 1, 0), matches(way{2, 5, 1}), 0, []int{0, 0, 2, 3, 4}},
	} {
		kept := fmt.Sprint(loose)
		got, e := Add(loose, c.x)
		x := c.x
		x.Open = c.left
		want := api.Cash{Claims: []api.Claim{x}, Incomes: loose.Incomes, Matches: c.want, Loose: c.loose}
		if e != api.OK || !same(got, want) || Check(got) != api.OK || kept != fmt.Sprint(loose) {
			t.Errorf("%s: %v, error %d, not %v", c.name, got, e, want)
		}
	}
	for i, id := range []int{1, 3, 5, 8} {
		got, e := Add(example(), owes(id, 9, 5, 0))
		if e != api.OK || got.Claims[i].ID != id || len(got.Claims) != 4 || Check(got) != api.OK {
			t.Errorf("%d: %v, error %d", id, got, e)
		}
	}
	for _, c := range []struct {
		name string
		c    api.Cash
		x    api.Claim
		want api.Errno
	}{
		{"one that is there", example(), owes(4, 1, 5, 0), api.ErrClaim},
		{"received", example(), open(5, 1, 5, 4, 0), api.ErrClaim},
		{"59 claims", api.Cash{Claims: claims(mostClaims - 1)}, owes(60, 1, 5, 0), api.OK},
		{"60 claims", api.Cash{Claims: claims(mostClaims)}, owes(61, 1, 5, 0), api.ErrLimit},
		{"60 claims, and it", api.Cash{Claims: claims(mostClaims)}, owes(60, 1, 5, 0), api.ErrClaim},
		{"159 matches", pieces(159, 200, 7), owes(2, 1, 5, 0), api.OK},
		{"160 matches", pieces(160, 200, 7), owes(2, 1, 5, 0), api.ErrLimit},
		{"160 matches, and none more", pieces(160, 200, 7), owes(2, 2, 5, 0), api.OK},
	} {
		got, e := Add(c.c, c.x)
		if e != c.want || e != api.OK && !same(got, api.Cash{}) {
			t.Errorf("%s: %v, error %d, not %d", c.name, got, e, c.want)
		}
	}
}

func TestRefund(t *testing.T) {
	for number, want := range map[int]int{3: 12, 9: 15} {
		c := example()
		got, n, e := Refund(c, number)
		next := example()
		for i, x := range next.Incomes {
			if x.Number == number {
				next.Loose[i] = 0
			}
		}
		if e != api.OK || n != want || !same(got, next) || Check(got) != api.OK || !same(c, example()) {
			t.Errorf("%d: %v, %d, error %d", number, got, n, e)
		}
		if got, n, e := Refund(got, number); e != api.ErrNone || n != 0 || !same(got, api.Cash{}) {
			t.Errorf("%d again: %v, %d, error %d", number, got, n, e)
		}
	}
	for number, want := range map[int]api.Errno{1: api.ErrNone, 2: api.ErrUnknown, 0: api.ErrUnknown, 10: api.ErrUnknown, math.MinInt: api.ErrUnknown} {
		if got, n, e := Refund(example(), number); e != want || n != 0 || !same(got, api.Cash{}) {
			t.Errorf("%d: %v, %d, error %d, not %d", number, got, n, e, want)
		}
	}
}

func TestLooseAndOwed(t *testing.T) {
	c := example()
	c.Incomes = append(c.Incomes, income(11, 9, 2, 5, 0))
	c.Loose = append(c.Loose, 5)
	for payer, want := range map[int][2]int{1: {0, 70}, 2: {17, 0}, 3: {15, 0}, 4: {0, 0}, 0: {0, 0}, -1: {0, 0}} {
		if got := [2]int{Loose(c, payer), Owed(c, payer)}; got != want {
			t.Errorf("%d: %v, not %v", payer, got, want)
		}
	}
}

// The consequences, and P1

func TestRandomCash(t *testing.T) {
	r := rand.New(rand.NewSource(271))
	for range 200 {
		c := api.Cash{}
		day, came, back := 0, 0, 0
		for i := range 60 {
			payer := 1 + r.Intn(3)
			var e api.Errno
			switch r.Intn(5) {
			case 0, 1:
				x := income(i+1, day, payer, 1+r.Intn(20), r.Intn(30))
				c, _, e = Take(c, x)
				came += x.Amount
				day += r.Intn(2)
			case 2, 3:
				x := owes(1+r.Intn(30), payer, 1+r.Intn(20), r.Intn(40))
				next, failed := Add(c, x)
				if there := slices.ContainsFunc(c.Claims, func(y api.Claim) bool { return y.ID == x.ID }); there != (failed == api.ErrClaim) {
					t.Fatalf("%v: error %d", x, failed)
				}
				if failed == api.OK {
					c = next
				}
			case 4:
				if next, n, failed := Refund(c, 1+r.Intn(i+1)); failed == api.OK {
					c, back = next, back+n
				}
			}
			if e != api.OK || Check(c) != api.OK {
				t.Fatalf("error %d, cash %d", e, Check(c))
			}
			matched, loose := 0, 0
			for _, m := range c.Matches {
				matched += m.Amount
			}
			for payer := range 4 {
				loose += Loose(c, payer)
				if Loose(c, payer) > 0 && Owed(c, payer) > 0 {
					t.Fatalf("%d has %d loose and owes %d", payer, Loose(c, payer), Owed(c, payer))
				}
			}
			if came != matched+loose+back {
				t.Fatalf("%d came in, %d were matched, %d are loose, %d were refunded", came, matched, loose, back)
			}
		}
	}
}

func TestResultsAreNewMemory(t *testing.T) {
	c := example()
	a, _ := Add(c, owes(5, 2, 5, 0))
	b, _, _ := Take(c, income(10, 9, 1, 5, 0))
	d, _, _ := Refund(c, 9)
	for _, x := range []api.Cash{a, b, d} {
		x.Claims[0].Open, x.Incomes[0].Amount, x.Matches[0].Amount, x.Loose[0] = -1, -1, -1, -1
	}
	if !same(c, example()) {
		t.Error("memory is shared")
	}
}
