package accrual

import (
	"fmt"
	"math"
	"math/rand"
	"slices"
	"testing"

	"treasury/api"
	"treasury/ledger"
)

// The limits are written out here as the document has them, so that a wrong one shows.
const (
	mostAmount   = 1000000000000
	mostNumber   = 1000000
	mostClaims   = 60
	mostEntities = 10
	mostPostings = 400
	lastOfAll    = 36000
)

// claim is a claim of which an amount is open.
func claim(id, open, day int) api.Claim {
	return api.Claim{ID: id, Payer: 1, Amount: mostAmount, Open: open, Day: day, Code: "4"}
}

func posting(number, day, entity, debit, credit, amount, ref int) api.Posting {
	return api.Posting{Number: number, Day: day, Entity: entity, Debit: debit, Credit: credit, Amount: amount, Ref: ref}
}

// books is a ledger with postings of the entity 1.
func books(l ...api.Posting) api.Ledger {
	for i := range l {
		l[i].Number = i + 1
		l[i].Entity = max(l[i].Entity, 1)
	}
	return api.Ledger{Postings: l}
}

// crowd is a ledger with so many postings of the day 700.
func crowd(n int) api.Ledger {
	var l api.Ledger
	for i := range n {
		l.Postings = append(l.Postings, posting(i+1, 700, 1, 110, 410, 5, 0))
	}
	return l
}

func same(a, b api.Ledger) bool { return slices.Equal(a.Postings, b.Postings) }

// P41.1

func TestCheck(t *testing.T) {
	good := []api.Closing{
		{}, {Interest: mostAmount, Unpaid: mostAmount, Prepaid: mostAmount}, {Interest: 1, Claims: []api.Claim{claim(7, 5, 0), claim(3, 0, 9), claim(7, 5, 0)}}, {Claims: slices.Repeat([]api.Claim{claim(1, mostAmount, 0)}, mostClaims)},
	}
	for i, c := range good {
		if e := Check(c); e != api.OK {
			t.Errorf("%d: error %d", i, e)
		}
	}
	for i, x := range []struct {
		c    api.Closing
		want api.Errno
	}{
		{api.Closing{Interest: -1}, api.ErrClosing}, {api.Closing{Unpaid: -1}, api.ErrClosing}, {api.Closing{Prepaid: -1}, api.ErrClosing}, {api.Closing{Interest: mostAmount + 1}, api.ErrClosing}, {api.Closing{Unpaid: mostAmount + 1}, api.ErrClosing}, {api.Closing{Prepaid: mostAmount + 1}, api.ErrClosing}, {api.Closing{Prepaid: math.MinInt}, api.ErrClosing},
		{api.Closing{Claims: []api.Claim{claim(1, 5, 0), {}}}, api.ErrClosing}, {api.Closing{Claims: []api.Claim{claim(1, -5, 0)}}, api.ErrClosing},
		{api.Closing{Claims: make([]api.Claim, mostClaims+1)}, api.ErrLimit}, {api.Closing{Interest: -1, Claims: slices.Repeat([]api.Claim{claim(1, 5, 0)}, mostClaims+1)}, api.ErrLimit},
	} {
		if e := Check(x.c); e != x.want {
			t.Errorf("%d: error %d, not %d", i, e, x.want)
		}
		for _, entity := range []int{0, 1} {
			if got, e := Adjust(crowd(3), entity, -1, x.c); e != x.want || len(got) > 0 {
				t.Errorf("%d, Adjust: %v, error %d, not %d", i, got, e, x.want)
			}
			if got, e := Close(crowd(3), entity, -1, x.c); e != x.want || !same(got, api.Ledger{}) {
				t.Errorf("%d, Close: %v, error %d, not %d", i, got, e, x.want)
			}
		}
	}
}

func TestProvision(t *testing.T) {
	for _, c := range []struct {
		l         []api.Claim
		day, want int
	}{
		{nil, 0, 0}, {[]api.Claim{claim(1, 1000, 600)}, 700, 250},
		{[]api.Claim{claim(1, 1000, 600)}, 690, 0}, {[]api.Claim{claim(1, 1000, 600)}, 691, 250}, {[]api.Claim{claim(1, 1000, 600)}, 780, 250}, {[]api.Claim{claim(1, 1000, 600)}, 781, 500}, {[]api.Claim{claim(1, 1000, 600)}, 960, 500}, {[]api.Claim{claim(1, 1000, 600)}, 961, 1000},
		{[]api.Claim{claim(1, 1000, 600)}, 600, 0}, {[]api.Claim{claim(1, 1000, 600)}, 0, 0}, {[]api.Claim{claim(1, 1000, 0)}, lastOfAll, 1000}, {[]api.Claim{claim(1, 1000, lastOfAll)}, 0, 0},
		{[]api.Claim{claim(1, 7, 600), claim(1, 7, 600), claim(2, 9, 500), claim(3, 0, 0), claim(4, 5, 0)}, 700, 1 + 1 + 4 + 5},
		{slices.Repeat([]api.Claim{claim(1, mostAmount, 0)}, mostClaims), 1000, mostClaims * mostAmount},
	} {
		if got, e := Provision(c.l, c.day); e != api.OK || got != c.want {
			t.Errorf("%v on %d: %d, error %d, not %d", c.l, c.day, got, e, c.want)
		}
	}
	for _, c := range []struct {
		l    []api.Claim
		day  int
		want api.Errno
	}{
		{make([]api.Claim, mostClaims+1), -1, api.ErrLimit}, {[]api.Claim{{}}, -1, api.ErrClosing}, {[]api.Claim{claim(1, 5, 0)}, -1, api.ErrRange}, {nil, lastOfAll + 1, api.ErrRange}, {nil, math.MinInt, api.ErrRange},
	} {
		if got, e := Provision(c.l, c.day); e != c.want || got != 0 {
			t.Errorf("%d claims on %d: %d, error %d, not %d", len(c.l), c.day, got, e, c.want)
		}
	}
}

// P41.2

func TestAdjust(t *testing.T) {
	claims := []api.Claim{claim(9, 1000, 600), claim(1, 40, 690)}
	for _, c := range []struct {
		name   string
		l      api.Ledger
		entity int
		c      api.Closing
		want   []api.Posting
	}{
		{"nothing", api.Ledger{}, 1, api.Closing{}, nil},
		{"all", api.Ledger{}, 3, api.Closing{Interest: 5, Unpaid: 6, Prepaid: 7, Claims: claims}, []api.Posting{posting(1, 700, 3, 520, 220, 5, mostNumber), posting(2, 700, 3, 510, 210, 6, mostNumber), posting(3, 700, 3, 130, 510, 7, mostNumber), posting(4, 700, 3, 120, 420, 1040, 0), posting(5, 700, 3, 530, 119, 250, 0)}},
		{"some", crowd(2), 1, api.Closing{Unpaid: 6, Claims: claims[1:]}, []api.Posting{posting(3, 700, 1, 510, 210, 6, mostNumber), posting(4, 700, 1, 120, 420, 40, 0)}},
		{"the others", crowd(2), 1, api.Closing{Interest: 6, Prepaid: 1}, []api.Posting{posting(3, 700, 1, 520, 220, 6, mostNumber), posting(4, 700, 1, 130, 510, 1, mostNumber)}},
		{"more than there are", books(posting(0, 5, 1, 120, 420, 2000, 0), posting(0, 5, 1, 530, 119, 700, 0)), 1, api.Closing{Claims: claims}, []api.Posting{posting(3, 700, 1, 420, 120, 960, 0), posting(4, 700, 1, 119, 530, 450, 0)}},
		{"some of them", books(posting(0, 5, 1, 120, 420, 200, 0), posting(0, 5, 1, 530, 119, 70, 0)), 1, api.Closing{Claims: claims}, []api.Posting{posting(3, 700, 1, 120, 420, 840, 0), posting(4, 700, 1, 530, 119, 180, 0)}},
		{"just these", books(posting(0, 5, 1, 120, 420, 1040, 0), posting(0, 700, 1, 530, 119, 250, 0)), 1, api.Closing{Claims: claims}, nil},
		{"those of another one", books(posting(0, 5, 1, 120, 420, 1040, 0), posting(0, 700, 1, 530, 119, 250, 0)), 2, api.Closing{Claims: claims}, []api.Posting{posting(3, 700, 2, 120, 420, 1040, 0), posting(4, 700, 2, 530, 119, 250, 0)}},
		{"none any more", books(posting(0, 5, 1, 120, 420, 1040, 0), posting(0, 700, 1, 530, 119, 250, 0)), 1, api.Closing{}, []api.Posting{posting(3, 700, 1, 420, 120, 1040, 0), posting(4, 700, 1, 119, 530, 250, 0)}},
		{"the wrong sign", books(posting(0, 5, 1, 420, 120, 10, 0), posting(0, 700, 1, 119, 530, 20, 0)), 1, api.Closing{Claims: claims}, []api.Posting{posting(3, 700, 1, 120, 420, 1050, 0), posting(4, 700, 1, 530, 119, 270, 0)}},
		{"the largest", api.Ledger{}, mostEntities, api.Closing{Interest: mostAmount, Unpaid: mostAmount, Prepaid: mostAmount, Claims: []api.Claim{claim(1, mostAmount, 0)}}, []api.Posting{posting(1, 700, 10, 520, 220, mostAmount, mostNumber), posting(2, 700, 10, 510, 210, mostAmount, mostNumber), posting(3, 700, 10, 130, 510, mostAmount, mostNumber), posting(4, 700, 10, 120, 420, mostAmount, 0), posting(5, 700, 10, 530, 119, mostAmount, 0)}},
	} {
		kept := fmt.Sprint(c.l, c.c)
		got, e := Adjust(c.l, c.entity, 700, c.c)
		if e != api.OK || !slices.Equal(got, c.want) {
			t.Errorf("%s: %v, error %d, not %v", c.name, got, e, c.want)
		}
		closed, e := Close(c.l, c.entity, 700, c.c)
		want := api.Ledger{Postings: slices.Concat(c.l.Postings, c.want)}
		if e != api.OK || !same(closed, want) || ledger.Check(closed) != api.OK {
			t.Errorf("%s, Close: %v, error %d", c.name, closed, e)
		}
		if len(closed.Postings) > 0 {
			closed.Postings[0].Amount = -1
		}
		if kept != fmt.Sprint(c.l, c.c) {
			t.Errorf("%s: an argument was changed", c.name)
		}
	}
}

func TestErrorsOfAdjust(t *testing.T) {
	one := api.Closing{Interest: 5}
	much := api.Closing{Claims: slices.Repeat([]api.Claim{claim(1, mostAmount/2+1, 0)}, 2)}
	for _, c := range []struct {
		name        string
		l           api.Ledger
		entity, day int
		c           api.Closing
		want        api.Errno
	}{
		{"a broken ledger", api.Ledger{Postings: make([]api.Posting, 1)}, 0, -1, api.Closing{Interest: -1}, api.ErrPosting},
		{"a large ledger", crowd(mostPostings + 1), 0, -1, api.Closing{Interest: -1}, api.ErrLimit},
		{"the entity 0", crowd(1), 0, -1, one, api.ErrEntity},
		{"the entity 11", crowd(1), mostEntities + 1, -1, one, api.ErrEntity},
		{"before the last posting", crowd(1), 1, 699, one, api.ErrOrder},
		{"before day 0", api.Ledger{}, 1, -1, one, api.ErrOrder},
		{"behind the last day", crowd(1), 1, lastOfAll + 1, much, api.ErrOrder},
		{"the first day", api.Ledger{}, 1, 0, one, api.OK},
		{"the last day", crowd(1), 1, lastOfAll, one, api.OK},
		{"too much is open", crowd(mostPostings), 1, 700, much, api.ErrRange},
		{"too much is doubtful", books(posting(0, 5, 1, 120, 420, mostAmount, 0), posting(0, 5, 1, 120, 420, 2, 0)), 1, 700, much, api.ErrRange},
		{"too much, of which most is there", books(posting(0, 5, 1, 120, 420, 2, 0), posting(0, 5, 1, 530, 119, 2, 0)), 1, 700, much, api.OK},
		{"399 and 1", crowd(mostPostings - 1), 1, 700, one, api.OK},
		{"399 and 2", crowd(mostPostings - 1), 1, 700, api.Closing{Interest: 5, Unpaid: 5}, api.ErrLimit},
		{"400 and 1", crowd(mostPostings), 1, 700, one, api.ErrLimit},
		{"400 and none", crowd(mostPostings), 1, 700, api.Closing{}, api.OK},
	} {
		if got, e := Adjust(c.l, c.entity, c.day, c.c); e != c.want || e != api.OK && len(got) > 0 {
			t.Errorf("%s: %v, error %d, not %d", c.name, got, e, c.want)
		}
		if got, e := Close(c.l, c.entity, c.day, c.c); e != c.want || e != api.OK && !same(got, api.Ledger{}) {
			t.Errorf("%s, Close: %v, error %d, not %d", c.name, got, e, c.want)
		}
	}
}

// P41.3

func TestReopen(t *testing.T) {
	l := books(
		posting(0, 699, 1, 520, 220, 9, mostNumber), posting(0, 700, 1, 110, 410, 9, 0), posting(0, 700, 1, 520, 220, 5, mostNumber), posting(0, 700, 2, 520, 220, 6, mostNumber),
		posting(0, 700, 1, 120, 420, 7, mostNumber-1), posting(0, 700, 1, 130, 510, 8, mostNumber), posting(0, 701, 1, 130, 510, 8, mostNumber),
	)
	for _, c := range []struct {
		entity int
		want   []api.Posting
	}{
		{1, []api.Posting{posting(8, 701, 1, 220, 520, 5, mostNumber), posting(9, 701, 1, 510, 130, 8, mostNumber)}}, {2, []api.Posting{posting(8, 701, 2, 220, 520, 6, mostNumber)}}, {3, nil}, {mostEntities, nil},
	} {
		kept := slices.Clone(l.Postings)
		got, e := Reopen(l, c.entity, 700)
		if e != api.OK || !slices.Equal(got.Postings, append(slices.Clone(kept), c.want...)) || ledger.Check(got) != api.OK {
			t.Errorf("%d: %v, error %d", c.entity, got, e)
		}
		got.Postings[0].Amount = -1
		if !slices.Equal(kept, l.Postings) {
			t.Errorf("%d: memory is shared", c.entity)
		}
	}
	full := func(n int) api.Ledger {
		l := crowd(n)
		l.Postings[n-1].Ref = mostNumber
		return l
	}
	for _, c := range []struct {
		name        string
		l           api.Ledger
		entity, day int
		want        api.Errno
	}{
		{"a broken ledger", api.Ledger{Postings: make([]api.Posting, 1)}, 0, -1, api.ErrPosting},
		{"a large ledger", crowd(mostPostings + 1), 0, -1, api.ErrLimit},
		{"the entity 0", l, 0, -1, api.ErrEntity},
		{"the entity 11", l, mostEntities + 1, -1, api.ErrEntity},
		{"a later posting", l, 1, 699, api.ErrOrder},
		{"before day 0", api.Ledger{}, 1, -1, api.ErrOrder},
		{"day 0", api.Ledger{}, 1, 0, api.OK},
		{"the last day", l, 1, lastOfAll, api.ErrOrder},
		{"an extreme day", l, 1, math.MaxInt, api.ErrOrder},
		{"the day before the last one", l, 1, lastOfAll - 1, api.OK},
		{"399 and 1", full(mostPostings - 1), 1, 700, api.OK},
		{"400 and 1", full(mostPostings), 1, 700, api.ErrLimit},
		{"400 and none", full(mostPostings), 1, 701, api.OK},
	} {
		if got, e := Reopen(c.l, c.entity, c.day); e != c.want || e != api.OK && !same(got, api.Ledger{}) {
			t.Errorf("%s: %v, error %d, not %d", c.name, got, e, c.want)
		}
	}
}

func TestResult(t *testing.T) {
	l := books(posting(0, 359, 1, 110, 410, 1, 0), posting(0, 360, 1, 110, 410, 100, 0), posting(0, 719, 1, 510, 110, 30, 0), posting(0, 719, 2, 510, 110, 500, 0), posting(0, 720, 1, 520, 110, 7, 0), posting(0, lastOfAll-1, 1, 110, 490, 9, 0))
	for _, c := range [][3]int{{1, 0, 1}, {1, 1, 70}, {1, 2, -7}, {1, 3, 0}, {1, 99, 9}, {2, 1, -500}, {0, 1, -430}, {3, 1, 0}} {
		if got, e := Result(l, c[0], c[1]); e != api.OK || got != c[2] {
			t.Errorf("%v: %d, error %d", c, got, e)
		}
	}
	for _, c := range []struct {
		l            api.Ledger
		entity, year int
		want         api.Errno
	}{
		{api.Ledger{Postings: make([]api.Posting, 1)}, -1, -1, api.ErrPosting}, {crowd(mostPostings + 1), -1, 100, api.ErrLimit}, {l, -1, -1, api.ErrEntity}, {l, mostEntities + 1, 100, api.ErrEntity}, {l, 1, -1, api.ErrRange}, {l, 1, 100, api.ErrRange}, {l, 1, math.MinInt, api.ErrRange}, {l, 1, math.MaxInt, api.ErrRange},
		{l, 1, math.MaxInt/180 + 1, api.ErrRange}, // 360 times it wraps to a day
	} {
		if got, e := Result(c.l, c.entity, c.year); e != c.want || got != 0 {
			t.Errorf("%d, %d: %d, error %d, not %d", c.entity, c.year, got, e, c.want)
		}
	}
}

// The consequences

func TestRandomClosings(t *testing.T) {
	r := rand.New(rand.NewSource(411))
	for range 300 {
		l := api.Ledger{}
		day := 0
		accounts := []int{110, 119, 120, 130, 210, 220, 410, 420, 510, 520, 530}
		for i := range r.Intn(20) {
			k := r.Perm(len(accounts))
			day += r.Intn(20)
			l.Postings = append(l.Postings, posting(i+1, day, 1+r.Intn(2), accounts[k[0]], accounts[k[1]], 1+r.Intn(1000), 0))
		}
		c := api.Closing{Interest: r.Intn(50), Unpaid: r.Intn(50), Prepaid: r.Intn(50)}
		for i := range r.Intn(5) {
			c.Claims = append(c.Claims, claim(i+1, r.Intn(500), r.Intn(400)))
		}
		end := 719
		once, e := Close(l, 1, end, c)
		if e != api.OK {
			t.Fatalf("error %d", e)
		}
		open := 0
		for _, x := range c.Claims {
			open += x.Open
		}
		provision, _ := Provision(c.Claims, end)
		twice, _ := Close(once, 1, end, api.Closing{Claims: c.Claims})
		if ledger.Of(once, 1, 120, end) != open || ledger.Of(once, 1, 119, end) != -provision || !same(once, twice) {
			t.Fatalf("%v, not %d and %d", once, open, provision)
		}
		next, e := Reopen(once, 1, end)
		if e != api.OK || ledger.Check(next) != api.OK {
			t.Fatalf("error %d", e)
		}
		for _, account := range []int{220, 210, 130} {
			if a, b := ledger.Of(l, 1, account, end), ledger.Of(next, 1, account, end+1); a != b {
				t.Fatalf("%d: %d, not %d", account, b, a)
			}
		}
		// What a closing moves between years is 0 over both.
		claims := ledger.Of(once, 1, 420, end) - ledger.Of(l, 1, 420, end) + ledger.Of(once, 1, 530, end) - ledger.Of(l, 1, 530, end)
		sum := 0
		for year := range 3 {
			a, _ := Result(next, 1, year)
			b, _ := Result(l, 1, year)
			sum += a - b
		}
		if sum != -claims {
			t.Fatalf("%d, not %d", sum, -claims)
		}
	}
}
