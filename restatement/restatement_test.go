package restatement

import (
	"fmt"
	"math"
	"math/rand"
	"slices"
	"testing"

	"treasury/api"
	"treasury/ledger"
)

// The limits are written out here as the document has them, so that a wrong one shows.
const (
	mostAmount   = 1000000000000
	mostPostings = 400
	mostVersions = 20
	mostOfOne    = 20 // postings of a correction
	lastOfYears  = 99
	lastOfAll    = 36000
)

func posting(number, day, entity, debit, credit, amount int) api.Posting {
	return api.Posting{Number: number, Day: day, Entity: entity, Debit: debit, Credit: credit, Amount: amount}
}

// fix is a correction of a year.
func fix(year, found int, l ...api.Posting) api.Correction {
	return api.Correction{Year: year, Found: found, Postings: l}
}

// example: 1000 came in in year 1, and 300 were spent in year 2; in year 2 an expense of 40 of year 1 was found, in year 3 a revenue of 7 of year 2.
func example() api.History {
	return api.History{
		Ledger: api.Ledger{Postings: []api.Posting{posting(1, 400, 1, 110, 410, 1000), posting(2, 800, 2, 510, 110, 300)}},
		Presented: []api.Presented{
			{Year: 1, Version: 1, Statement: api.Statement{Assets: 1000, Revenue: 1000}},
			{Year: 2, Version: 1, Statement: api.Statement{Assets: 5}},
			{Year: 1, Version: 2, Statement: api.Statement{Assets: 960, Revenue: 1000, Expense: 40}},
		},
		Corrections: []api.Correction{fix(1, 730, posting(7, 719, 1, 510, 210, 40)), fix(2, 1100, posting(3, 720, 1, 120, 420, 5), posting(1, 1079, 1, 120, 420, 2))},
	}
}

func same(a, b api.History) bool { return fmt.Sprint(a) == fmt.Sprint(b) }

// P44.1

// wrong are changes that make the example a history with an error.
func wrong() map[string]struct {
	change func(h *api.History)
	want   api.Errno
} {
	type row = struct {
		change func(h *api.History)
		want   api.Errno
	}
	l := map[string]row{
		"a posting":  {func(h *api.History) { h.Ledger.Postings[0].Amount = 0 }, api.ErrPosting},
		"the ledger": {func(h *api.History) { h.Ledger.Postings[1].Number = 3 }, api.ErrLedger},
		"a large ledger": {func(h *api.History) {
			h.Ledger.Postings = make([]api.Posting, mostPostings+1)
			h.Corrections[0].Year = -1
		}, api.ErrLimit},
		"the ledger and 21": {func(h *api.History) {
			h.Ledger.Postings[1].Number = 3
			h.Corrections = make([]api.Correction, mostVersions+1)
		}, api.ErrLedger},
		"21 corrections":              {func(h *api.History) { h.Corrections = slices.Repeat(h.Corrections[:1], mostVersions+1) }, api.ErrLimit},
		"21 that are not right":       {func(h *api.History) { h.Corrections = make([]api.Correction, mostVersions+1) }, api.ErrLimit},
		"21 statements":               {func(h *api.History) { h.Presented = presented(mostVersions + 1) }, api.ErrLimit},
		"21 statements not in order":  {func(h *api.History) { h.Presented = make([]api.Presented, mostVersions+1) }, api.ErrLimit},
		"a version left out":          {func(h *api.History) { h.Presented[2].Version = 3 }, api.ErrHistory},
		"a version twice":             {func(h *api.History) { h.Presented[2].Version = 1 }, api.ErrHistory},
		"versions not in their order": {func(h *api.History) { h.Presented[0].Version, h.Presented[2].Version = 2, 1 }, api.ErrHistory},
		"the version 0":               {func(h *api.History) { h.Presented[1].Version = 0 }, api.ErrHistory},
		"another year":                {func(h *api.History) { h.Presented[2].Year = 2 }, api.OK},
		"found on a day that falls":   {func(h *api.History) { h.Corrections[0].Found = 1101 }, api.ErrHistory},
	}
	for name, change := range faults() {
		l[name] = row{func(h *api.History) { change(&h.Corrections[1]) }, api.ErrHistory}
	}
	return l
}

// faults are changes that make the second correction of the example one that is not right.
func faults() map[string]func(c *api.Correction) {
	return map[string]func(c *api.Correction){
		"a year below 0":        func(c *api.Correction) { c.Year = -1; c.Postings = nil },
		"a year too late":       func(c *api.Correction) { c.Year = lastOfYears + 1 },
		"found on the last day": func(c *api.Correction) { c.Found = 1079 },
		"found on no day":       func(c *api.Correction) { c.Found = lastOfAll + 1 },
		"found before the last one": func(c *api.Correction) {
			c.Year = 1
			c.Found = 729
			c.Postings = c.Postings[:1]
			c.Postings[0].Day = 719
		},
		"no postings":         func(c *api.Correction) { c.Postings = nil },
		"21 postings":         func(c *api.Correction) { c.Postings = slices.Repeat(c.Postings[:1], mostOfOne+1) },
		"a posting not valid": func(c *api.Correction) { c.Postings[1].Credit = 120 },
		"the number 0":        func(c *api.Correction) { c.Postings[0].Number = 0 },
		"a posting ahead":     func(c *api.Correction) { c.Postings[0].Day = 719 },
		"a posting behind":    func(c *api.Correction) { c.Postings[1].Day = 1080 },
		"a posting on no day": func(c *api.Correction) { c.Year = 0; c.Postings = c.Postings[:1]; c.Postings[0].Day = -1 },
		"an extreme year":     func(c *api.Correction) { c.Year = math.MinInt },
	}
}

// presented returns so many statements of year 1.
func presented(n int) []api.Presented {
	var l []api.Presented
	for i := range n {
		l = append(l, api.Presented{Year: 1, Version: i + 1})
	}
	return l
}

func TestCheck(t *testing.T) {
	for name, c := range wrong() {
		h := example()
		c.change(&h)
		if e := Check(h); e != c.want {
			t.Errorf("%s: error %d, not %d", name, e, c.want)
		}
		if c.want == api.OK {
			continue
		}
		if got, e := Correct(h, api.Correction{}); e != c.want || !same(got, api.History{}) {
			t.Errorf("%s, Correct: %v, error %d", name, got, e)
		}
		for _, year := range []int{-1, 1} {
			if got, p, e := Present(h, year); e != c.want || !same(got, api.History{}) || p != (api.Presented{}) {
				t.Errorf("%s, Present: %v, %v, error %d", name, got, p, e)
			}
			if got, e := Restated(h, year); e != c.want || got != (api.Statement{}) {
				t.Errorf("%s, Restated: %v, error %d", name, got, e)
			}
			if got, e := Effect(h, year); e != c.want || got != 0 {
				t.Errorf("%s, Effect: %v, error %d", name, got, e)
			}
		}
		if s, ok := Shown(h, 1, 1); ok || s != (api.Statement{}) || Explained(h, 1) {
			t.Errorf("%s: %v, %v", name, s, ok)
		}
	}
	for name, change := range map[string]func(h *api.History){
		"nothing":        func(h *api.History) {},
		"20 statements":  func(h *api.History) { h.Presented = presented(mostVersions) },
		"20 corrections": func(h *api.History) { h.Corrections = slices.Repeat(h.Corrections[1:], mostVersions) },
		"20 postings": func(h *api.History) {
			h.Corrections[1].Postings = slices.Repeat(h.Corrections[1].Postings[:1], mostOfOne)
		},
		"the first day": func(h *api.History) { h.Corrections[0].Found = 720 },
		"the ends": func(h *api.History) {
			h.Corrections = []api.Correction{fix(0, 360, posting(1, 0, 1, 110, 410, 1)), fix(lastOfYears, lastOfAll, posting(1, 35999, 1, 110, 410, 1))}
		},
		"an earlier year": func(h *api.History) {
			h.Corrections = append(h.Corrections, fix(0, 1100, posting(9, 5, 1, 110, 410, 1)))
		},
	} {
		h := example()
		change(&h)
		if e := Check(h); e != api.OK {
			t.Errorf("%s: error %d", name, e)
		}
	}
}

func TestNewAndCorrect(t *testing.T) {
	l := example().Ledger
	h, e := New(l)
	if e != api.OK || !same(h, api.History{Ledger: l}) {
		t.Errorf("%v, error %d", h, e)
	}
	h.Ledger.Postings[0].Amount = -1
	if l.Postings[0].Amount != 1000 {
		t.Error("memory is shared")
	}
	for _, c := range []struct {
		l    api.Ledger
		want api.Errno
	}{{api.Ledger{Postings: make([]api.Posting, mostPostings+1)}, api.ErrLimit}, {api.Ledger{Postings: make([]api.Posting, 1)}, api.ErrPosting}, {api.Ledger{Postings: []api.Posting{posting(2, 0, 1, 110, 410, 5)}}, api.ErrLedger}} {
		if h, e := New(c.l); e != c.want || !same(h, api.History{}) {
			t.Errorf("%v, error %d, not %d", h, e, c.want)
		}
	}
	for name, change := range faults() {
		h := example()
		c := h.Corrections[1]
		h.Corrections = h.Corrections[:1]
		change(&c)
		if got, e := Correct(h, c); e != api.ErrHistory || !same(got, api.History{}) {
			t.Errorf("%s: %v, error %d", name, got, e)
		}
	}
	old := example()
	c := fix(0, 1100, posting(9, 5, 1, 110, 410, 1))
	got, e := Correct(old, c)
	want := example()
	want.Corrections = append(want.Corrections, c)
	if e != api.OK || !same(got, want) {
		t.Errorf("%v, error %d", got, e)
	}
	got.Corrections[0].Postings[0].Amount, got.Corrections[2].Postings[0].Amount, got.Ledger.Postings[0].Amount, got.Presented[0].Year = -1, -1, -1, -1
	if !same(old, example()) || c.Postings[0].Amount != 1 {
		t.Error("memory is shared")
	}
	full := example()
	full.Corrections = slices.Repeat(full.Corrections[1:], mostVersions-1)
	if got, e := Correct(full, c); e != api.OK || len(got.Corrections) != mostVersions {
		t.Errorf("19: error %d", e)
	}
	full.Corrections = slices.Repeat(full.Corrections[1:2], mostVersions)
	if got, e := Correct(full, c); e != api.ErrLimit || !same(got, api.History{}) {
		t.Errorf("20: error %d", e)
	}
	if got, e := Correct(full, api.Correction{}); e != api.ErrHistory || !same(got, api.History{}) {
		t.Errorf("20, and not right: error %d", e)
	}
}

// P44.2

func TestRestatedAndPresent(t *testing.T) {
	h := example()
	for year, want := range map[int]api.Statement{
		0:           {},
		1:           {Assets: 1000, Liabilities: 40, Revenue: 1000, Expense: 40},
		2:           {Assets: 707, Liabilities: 40, Worth: 960, Revenue: 7, Expense: 300},
		3:           {Assets: 707, Liabilities: 40, Worth: 667},
		lastOfYears: {Assets: 707, Liabilities: 40, Worth: 667},
	} {
		if got, e := Restated(h, year); e != api.OK || got != want {
			t.Errorf("year %d: %v, error %d, not %v", year, got, e, want)
		}
		version := map[int]int{1: 3, 2: 2}[year]
		p := api.Presented{Year: year, Version: max(version, 1), Statement: want}
		kept := example()
		kept.Presented = append(kept.Presented, p)
		got, shown, e := Present(h, year)
		if e != api.OK || shown != p || !same(got, kept) || !same(h, example()) || Check(got) != api.OK {
			t.Errorf("year %d: %v, %v, error %d, not %v", year, got, shown, e, p)
		}
		if s, ok := Shown(got, year, p.Version); !ok || s != want {
			t.Errorf("year %d: %v, %v", year, s, ok)
		}
		got.Corrections[0].Postings[0].Amount, got.Ledger.Postings[0].Amount, got.Presented[0].Year = -1, -1, -1
		if !same(h, example()) {
			t.Error("memory is shared")
		}
	}
	for _, year := range []int{-1, lastOfYears + 1, math.MinInt, math.MaxInt, math.MaxInt/180 + 1} {
		if got, e := Restated(h, year); e != api.ErrRange || got != (api.Statement{}) {
			t.Errorf("year %d: %v, error %d", year, got, e)
		}
		if got, p, e := Present(h, year); e != api.ErrRange || p != (api.Presented{}) || !same(got, api.History{}) {
			t.Errorf("year %d: %v, %v, error %d", year, got, p, e)
		}
		if got, e := Effect(h, year); e != api.ErrRange || got != 0 {
			t.Errorf("year %d: %v, error %d", year, got, e)
		}
		if Explained(h, year) {
			t.Errorf("year %d is explained", year)
		}
	}
	h.Presented = presented(mostVersions - 1)
	if _, p, e := Present(h, 2); e != api.OK || p.Version != 1 {
		t.Errorf("19: %v, error %d", p, e)
	}
	h.Presented = presented(mostVersions)
	if got, p, e := Present(h, 2); e != api.ErrLimit || p != (api.Presented{}) || !same(got, api.History{}) {
		t.Errorf("20: %v, error %d", p, e)
	}
	if _, _, e := Present(h, -1); e != api.ErrRange {
		t.Errorf("20, and no year: error %d", e)
	}
}

func TestShown(t *testing.T) {
	h := example()
	for _, c := range []struct {
		year, version int
		want          api.Statement
		ok            bool
	}{
		{1, 1, api.Statement{Assets: 1000, Revenue: 1000}, true}, {1, 2, api.Statement{Assets: 960, Revenue: 1000, Expense: 40}, true}, {2, 1, api.Statement{Assets: 5}, true}, {2, 2, api.Statement{}, false}, {1, 3, api.Statement{}, false}, {1, 0, api.Statement{}, false}, {3, 1, api.Statement{}, false}, {-1, -1, api.Statement{}, false},
	} {
		if got, ok := Shown(h, c.year, c.version); got != c.want || ok != c.ok {
			t.Errorf("%d, %d: %v, %v", c.year, c.version, got, ok)
		}
	}
}

// P44.3

func TestEffect(t *testing.T) {
	h := example()
	h.Corrections = []api.Correction{
		fix(1, 730, posting(7, 719, 1, 510, 410, 1000), posting(1, 360, 1, 510, 210, 1), posting(1, 360, 2, 410, 110, 2), posting(1, 360, 1, 110, 499, 40), posting(1, 360, 1, 110, 500, 80), posting(1, 360, 1, 110, 399, 10000), posting(1, 360, 1, 300, 200, 10000)),
		fix(2, 1100, posting(1, 800, 1, 110, 410, 7)), fix(1, 1200, posting(1, 400, 1, 599, 300, 500)),
	}
	for year, want := range map[int]int{0: 0, 1: -1 - 2 + 40 + 80 - 500, 2: 7, 3: 0, lastOfYears: 0} {
		if got, e := Effect(h, year); e != api.OK || got != want {
			t.Errorf("year %d: %d, error %d, not %d", year, got, e, want)
		}
		if !Explained(h, year) {
			t.Errorf("year %d is not explained", year)
		}
	}
}

// The consequences

func TestExample(t *testing.T) {
	h, e := New(example().Ledger)
	if e != api.OK {
		t.Fatalf("error %d", e)
	}
	h, first, _ := Present(h, 1)
	h, again, _ := Present(h, 1)
	if first.Statement != again.Statement || again.Version != 2 {
		t.Errorf("%v and %v", first, again)
	}
	if h, e = Correct(h, fix(1, 730, posting(1, 500, 1, 510, 210, 40))); e != api.OK {
		t.Fatalf("error %d", e)
	}
	h, third, _ := Present(h, 1)
	shown, _ := Shown(h, 1, 1)
	if third.Statement.Expense != first.Statement.Expense+40 || shown != first.Statement || third.Version != 3 {
		t.Errorf("%v, %v and %v", first, shown, third)
	}
}

func TestRandomHistories(t *testing.T) {
	r := rand.New(rand.NewSource(441))
	accounts := []int{110, 120, 210, 230, 300, 410, 420, 510, 520}
	random := func(number, year int) api.Posting {
		k := r.Perm(len(accounts))
		return posting(number, 360*year+r.Intn(360), 1+r.Intn(3), accounts[k[0]], accounts[k[1]], 1+r.Intn(mostAmount))
	}
	for range 300 {
		var l []api.Posting
		for range r.Intn(30) {
			l = append(l, random(1, r.Intn(4)))
		}
		inOrder(l)
		h, e := New(api.Ledger{Postings: l})
		found := 1500
		whole := slices.Clone(l)
		var years []int // of the corrections behind the ledger
		for range r.Intn(6) {
			c := fix(r.Intn(4), found)
			for range 1 + r.Intn(4) {
				c.Postings = append(c.Postings, random(1+r.Intn(9), c.Year))
				whole = append(whole, c.Postings[len(c.Postings)-1])
				years = append(years, c.Year)
			}
			found += r.Intn(5)
			if h, e = Correct(h, c); e != api.OK {
				t.Fatalf("error %d", e)
			}
		}
		before := api.Statement{}
		for year := range 5 {
			// All postings in one ledger, without the corrections of later years.
			var counted []api.Posting
			for i, p := range whole {
				if i < len(l) || years[i-len(l)] <= year {
					counted = append(counted, p)
				}
			}
			inOrder(counted)
			want, _ := ledger.Statement(api.Ledger{Postings: counted}, 0, 360*year, 360*year+359)
			got, e := Restated(h, year)
			if e != api.OK || got != want || !Explained(h, year) {
				t.Fatalf("year %d: %v, error %d, not %v", year, got, e, want)
			}
			own := 0
			for _, p := range counted {
				if p.Day/360 == year-1 {
					if p.Credit == 300 {
						own += p.Amount
					}
					if p.Debit == 300 {
						own -= p.Amount
					}
				}
			}
			if year > 0 && got.Worth != before.Worth+before.Revenue-before.Expense+own {
				t.Fatalf("year %d: %v behind %v", year, got, before)
			}
			before = got
		}
	}
}

// inOrder puts postings into the order of their days, and gives them numbers.
func inOrder(l []api.Posting) {
	slices.SortStableFunc(l, func(a, b api.Posting) int { return a.Day - b.Day })
	for i := range l {
		l[i].Number = i + 1
	}
}
