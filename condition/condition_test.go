package condition

import (
	"fmt"
	"math"
	"math/rand"
	"slices"
	"testing"

	"treasury/api"
	"treasury/budget"
)

// P10.1

func TestCheck(t *testing.T) {
	for _, c := range badLists(t) {
		if got := Check(c.law, c.r); got != c.want {
			t.Errorf("%s: error %d, not %d", c.name, got, c.want)
		}
		if n, e := Blocked(c.law, c.r, "1", 12, 0); n != 0 || e != c.want {
			t.Errorf("%s: blocked %d, error %d, not %d", c.name, n, e, c.want)
		}
		if l, e := Open(c.law, c.r, 0); l != nil || e != c.want {
			t.Errorf("%s: open %v, error %d, not %d", c.name, l, e, c.want)
		}
	}
}

func TestCheckOfGoodReceipts(t *testing.T) {
	l := lawOf(t, "line 1 12 500")
	var many []api.Receipt
	for i := range 100 {
		many = append(many, receiptOf(4330, i+1, "9.2", 1))
	}
	for name, r := range map[string][]api.Receipt{
		"none":                {},
		"the least numbers":   {receiptOf(0, 1, "1", -mostAmount)},
		"the largest numbers": {receiptOf(lastDay, mostNumber, "9.1.10", mostAmount)},
		"an amount of 1":      {receiptOf(1, 1, "1", -1), receiptOf(1, 2, "1", 1)},
		"in their order":      {receiptOf(1, 5, "9.2", 3), receiptOf(1, 6, "1", 3), receiptOf(2, 1, "1", 3)},
		"of years out of it":  {receiptOf(1, 1, "2.1", 3), receiptOf(30000, 1, "2.1", 3)},
		"100 receipts":        many,
	} {
		if e := Check(l, r); e != api.OK {
			t.Errorf("%s: error %d", name, e)
		}
	}
	if e := Check(l, append(many, receiptOf(4331, 1, "9.2", 1))); e != api.ErrLimit {
		t.Errorf("101 receipts: error %d", e)
	}
}

func TestReceived(t *testing.T) {
	r := receiptsOf(t, "4319 9.2 1; 4320 9.2 2; 4321 9.1.1 4; 4321 9.1.10 8; 4400 9.1.1 -16; 4679 9.2 32; 4680 9.2 64; 35999 9.2 128; 36000 9.2 256; 0 9.2 512; 359 9.2 1024")
	for _, c := range []struct {
		source          string
		year, day, want int
	}{
		{"9", 12, 4319, 0}, {"9", 12, 4320, 2}, {"9", 12, 4321, 14}, {"9", 12, 4399, 14}, {"9", 12, 4400, -2}, {"9", 12, 4678, -2}, {"9", 12, 4679, 30}, {"9", 12, 9999, 30}, {"9", 12, math.MaxInt, 30},
		{"9.1", 12, 4321, 12}, {"9.1.1", 12, 4321, 4}, {"9.1.10", 12, 4321, 8}, {"9.1", 12, 4400, -4}, {"9.1.1", 12, 4400, -12}, {"9.2", 12, 4400, 2},
		{"9", 11, 4319, 1}, {"9", 11, 4318, 0}, {"9", 11, 36000, 1}, {"9", 13, 4679, 0}, {"9", 13, 4680, 64}, {"9", 99, 35999, 128}, {"9", 100, 35999, 0}, {"9", 100, 36000, 256},
		{"9", 0, -1, 0}, {"9", 0, 0, 512}, {"9", 0, 358, 512}, {"9", 0, 359, 1536}, {"9", 0, math.MinInt, 0},
		{"", 12, 4679, 0}, {"1", 12, 4679, 0}, {"9.", 12, 4679, 0}, {"9.1.1.1", 12, 4679, 0}, {"9.20", 12, 4679, 0}, {"x", 12, 4679, 0},
		{"9", -1, 36000, 0}, {"9", 101, 36000, 0}, {"9", math.MinInt, 36000, 0}, {"9", math.MaxInt, 36000, 0},
	} {
		if got := Received(r, c.source, c.year, c.day); got != c.want || got != receivedOf(r, c.source, c.year, c.day) && c.year >= 0 && c.year <= 100 {
			t.Errorf("received under %q in %d up to %d: %d, not %d", c.source, c.year, c.day, got, c.want)
		}
	}
	if Received(nil, "9", 12, 4400) != 0 {
		t.Error("received without receipts")
	}
}

func TestReceivedOfAnyReceipts(t *testing.T) {
	for name, c := range map[string]struct {
		r    []api.Receipt
		year int
		want int
	}{
		"the ends of amounts":               {[]api.Receipt{receiptOf(4320, 1, "9", mostAmount), receiptOf(4320, 1, "9", -mostAmount), receiptOf(4320, 1, "9", 3)}, 12, 3},
		"amounts that do not count":         {[]api.Receipt{receiptOf(4320, 1, "9", mostAmount+1), receiptOf(4320, 1, "9", -mostAmount-1), receiptOf(4320, 1, "9", math.MinInt), receiptOf(4320, 1, "9", math.MaxInt), receiptOf(4320, 1, "9", 3)}, 12, 3},
		"out of order, and twice":           {[]api.Receipt{receiptOf(4330, 1, "9", 1), receiptOf(4320, 1, "9", 2), receiptOf(4330, 1, "9", 1)}, 12, 4},
		"numbers and codes that are none":   {[]api.Receipt{receiptOf(4330, -1, "9", 1), receiptOf(4330, math.MaxInt, "9.99.99", 2), receiptOf(4330, 1, "9.", 4), receiptOf(4330, 1, "", 8)}, 12, 3},
		"days that are none":                {[]api.Receipt{receiptOf(-1, 1, "9", 1), receiptOf(-360, 1, "9", 2), receiptOf(36001, 1, "9", 4), receiptOf(math.MinInt, 1, "9", 8)}, -1, 0},
		"days that are none, in year 0":     {[]api.Receipt{receiptOf(-1, 1, "9", 1), receiptOf(0, 1, "9", 2), receiptOf(math.MinInt, 1, "9", 8)}, 0, 2},
		"days that are none, in year 100":   {[]api.Receipt{receiptOf(36000, 1, "9", 1), receiptOf(36001, 1, "9", 2)}, 100, 1},
		"1,000 receipts":                    {slices.Repeat([]api.Receipt{receiptOf(4320, 1, "9", mostAmount)}, 1000), 12, 1000 * mostAmount},
		"1,000 refunds":                     {slices.Repeat([]api.Receipt{receiptOf(4320, 1, "9", -mostAmount)}, 1000), 12, -1000 * mostAmount},
		"1,001 receipts":                    {slices.Repeat([]api.Receipt{receiptOf(4320, 1, "9", mostAmount)}, 1001), 12, 1000 * mostAmount},
		"behind 1,000 that do not count":    {append(make([]api.Receipt, 1000), receiptOf(4320, 1, "9", 5)), 12, 0},
		"the last one that counts":          {append(make([]api.Receipt, 999), receiptOf(4320, 1, "9", 5), receiptOf(4320, 1, "9", 7)), 12, 5},
		"a year's first and last receipt":   {[]api.Receipt{receiptOf(4319, 1, "9", 1), receiptOf(4320, 1, "9", 2), receiptOf(4679, 1, "9", 4), receiptOf(4680, 1, "9", 8)}, 12, 6},
		"under a code of more than one sum": {[]api.Receipt{receiptOf(4320, 1, "9.9", 1), receiptOf(4320, 1, "99", 2), receiptOf(4320, 1, "9.10.1.1", 4)}, 12, 5},
	} {
		if got := Received(c.r, "9", c.year, math.MaxInt); got != c.want {
			t.Errorf("%s: %d, not %d", name, got, c.want)
		}
	}
}

func TestReceivedOfRandomReceipts(t *testing.T) {
	r := rand.New(rand.NewSource(101))
	for range 500 {
		l := randomReceipts(r, r.Intn(101), 30)
		for range 20 {
			source, year, day := []string{"1", "2", "9", "9.1", "9.1.1", "9.2"}[r.Intn(6)], 10+r.Intn(6), 3900+r.Intn(1500)
			if got, want := Received(l, source, year, day), receivedOf(l, source, year, day); got != want {
				t.Fatalf("received under %s in %d up to %d: %d, not %d, of %v", source, year, day, got, want, l)
			}
		}
	}
}

// P10.2

func TestReleased(t *testing.T) {
	example := "4330 9.1.1 300; 4340 9.2 300; 4350 9.1.1 -200"
	for _, c := range []struct {
		name     string
		c        api.Condition
		receipts string
		day      int
		ever     bool
	}{
		{"the example", reachOf("9", 12, 500), example, 4340, true},
		{"the least that is enough", reachOf("9", 12, 600), example, 4340, true},
		{"too much", reachOf("9", 12, 601), example, 0, false},
		{"at the first receipt", reachOf("9", 12, 300), example, 4330, true},
		{"at the first receipt, of 1", reachOf("9", 12, 1), example, 4330, true},
		{"nothing to be received", reachOf("9", 12, 0), example, 4320, true},
		{"less than nothing to be received", reachOf("9", 12, -1), example, 4320, true},
		{"nothing to be received, no receipts", reachOf("9", 12, 0), "", 4320, true},
		{"something to be received, no receipts", reachOf("9", 12, 1), "", 0, false},
		{"a refund on the first day", reachOf("9", 12, 0), "4320 9.2 -5; 4330 9.2 4; 4331 9.2 1", 4331, true},
		{"a refund on the first day, never made good", reachOf("9", 12, 0), "4320 9.2 -5; 4330 9.2 4", 0, false},
		{"a refund on the first day, less than nothing to be received", reachOf("9", 12, -4), "4320 9.2 -5; 4330 9.2 1", 4330, true},
		{"on the first day", reachOf("9", 12, 5), "4320 9.2 5", 4320, true},
		{"on the last day", reachOf("9", 12, 5), "4679 9.2 5", 4679, true},
		{"one day early", reachOf("9", 12, 5), "4319 9.2 5", 0, false},
		{"one day late", reachOf("9", 12, 5), "4680 9.2 5", 0, false},
		{"a receipt and a refund of one day", reachOf("9", 12, 5), "4330 9.2 5; 4330 9.2 -1; 4340 9.2 1", 4340, true},
		{"a refund and a receipt of one day", reachOf("9", 12, 5), "4330 9.2 -1; 4330 9.2 5; 4340 9.2 1", 4340, true},
		{"two receipts of one day", reachOf("9", 12, 5), "4330 9.2 2; 4330 9.1.1 3", 4330, true},
		{"in any order", reachOf("9", 12, 5), "4340 9.2 3; 4330 9.2 2; 4350 9.2 1", 4340, true},
		{"in any order, a day twice", reachOf("9", 12, 5), "4330 9.2 9; 4320 9.2 1; 4330 9.2 -8; 4340 9.2 3", 4340, true},
		{"under the source alone", reachOf("9.1", 12, 5), "4330 9.2 5; 4340 9.1.10 5", 4340, true},
		{"a leaf as source", reachOf("9.1.1", 12, 5), "4330 9.1.10 5; 4340 9.1.1 5", 4340, true},
		{"no source", reachOf("", 12, 0), "4330 9.2 5", 4320, true},
		{"no source, something to be received", reachOf("", 12, 1), "4330 9.2 5", 0, false},
		{"the year 0", reachOf("9", 0, 0), "", 0, true},
		{"the year 0", reachOf("9", 0, 5), "3 9.2 5", 3, true},
		{"the year 99", reachOf("9", 99, 5), "35999 9.2 5", 35999, true},
		{"the year 100", reachOf("9", 100, 0), "", 36000, true},
		{"the year 100", reachOf("9", 100, 5), "36000 9.2 5", 36000, true},
		{"the year 100, something to be received", reachOf("9", 100, 5), "36001 9.2 5", 0, false},
		{"the year 101", reachOf("9", 101, 0), "", 0, false},
		{"the year -1", reachOf("9", -1, -5), "-1 9.2 5", 0, false},
		{"the ends of numbers as years", reachOf("9", math.MaxInt, math.MinInt), "", 0, false},
		{"the ends of numbers as years", reachOf("9", math.MinInt, math.MinInt), "", 0, false},
		{"a year that wraps to one", reachOf("9", math.MinInt/360, 0), "", 0, false},
		{"the largest number to be received", reachOf("9", 12, math.MaxInt), example, 0, false},
		{"the least number to be received", reachOf("9", 12, math.MinInt), "4320 9.2 -1000000000000", 4320, true},
		{"a day", waitOf(4400), "", 4400, true},
		{"the day 0", waitOf(0), example, 0, true},
		{"a day before", waitOf(-1), "", 0, true},
		{"a day long before", waitOf(math.MinInt), "", 0, true},
		{"the last day", waitOf(36000), "", 36000, true},
		{"behind the last day", waitOf(36001), "", 0, false},
		{"far behind the last day", waitOf(math.MaxInt), "", 0, false},
		{"no kind", api.Condition{Day: 5, Source: "9", Year: 12}, example, 0, false},
		{"another kind", api.Condition{Kind: 3, Day: 5, Source: "9", Year: 12}, example, 0, false},
		{"a kind below 0", api.Condition{Kind: -1, Day: 5, Source: "9", Year: 12}, example, 0, false},
		{"a day, with a source", api.Condition{Kind: api.ConditionDay, Day: 5, Source: "9", Year: 12, Least: 5000}, example, 5, true},
		{"a source, with a day", api.Condition{Kind: api.ConditionReceived, Day: 5, Source: "9", Year: 12, Least: 300}, example, 4330, true},
	} {
		r := receiptsOf(t, c.receipts)
		if day, ever := Released(c.c, r); day != c.day || ever != c.ever {
			t.Errorf("%s: released on %d, %v, not %d, %v", c.name, day, ever, c.day, c.ever)
		}
		for day, want := range map[int]bool{c.day - 1: false, c.day: c.ever, c.day + 1: c.ever, 36000: c.ever, math.MaxInt: c.ever, -1: false, math.MinInt: false} {
			if Holds(c.c, r, day) != want {
				t.Errorf("%s: holds on %d: %v", c.name, day, !want)
			}
		}
	}
}

func TestReleasedOfAnyReceipts(t *testing.T) {
	for name, c := range map[string]struct {
		r    []api.Receipt
		day  int
		ever bool
	}{
		"amounts that do not count":    {[]api.Receipt{receiptOf(4330, 1, "9", mostAmount+1), receiptOf(4340, 1, "9", math.MinInt), receiptOf(4350, 1, "9", 5)}, 4350, true},
		"behind 1,000 others":          {append(slices.Repeat([]api.Receipt{receiptOf(4340, 1, "8", 5)}, 1000), receiptOf(4330, 1, "9", 5)), 0, false},
		"the last one that counts":     {append(slices.Repeat([]api.Receipt{receiptOf(4340, 1, "8", 5)}, 999), receiptOf(4330, 1, "9", 5)), 4330, true},
		"1,001 receipts":               {slices.Repeat([]api.Receipt{receiptOf(4330, 1, "9", mostAmount)}, 1001), 4330, true},
		"days that are none":           {[]api.Receipt{receiptOf(-5, 1, "9", 5), receiptOf(36001, 1, "9", 5), receiptOf(math.MinInt, 1, "9", 5)}, 0, false},
		"numbers that are none, twice": {[]api.Receipt{receiptOf(4330, -5, "9", 3), receiptOf(4330, -5, "9", 2)}, 4330, true},
	} {
		if day, ever := Released(reachOf("9", 12, 5), c.r); day != c.day || ever != c.ever {
			t.Errorf("%s: released on %d, %v, not %d, %v", name, day, ever, c.day, c.ever)
		}
	}
}

func TestReleasedOfRandomReceipts(t *testing.T) {
	r := rand.New(rand.NewSource(102))
	some := 0
	for range 600 {
		l := randomReceipts(r, r.Intn(40), 20)
		r.Shuffle(len(l), func(i, j int) { l[i], l[j] = l[j], l[i] })
		c := reachOf([]string{"1", "2", "9", "9.1", "9.1.1", "9.2"}[r.Intn(6)], 11+r.Intn(3), r.Intn(300)-50)
		day, ever := Released(c, l)
		if want, so := releasedOf(c, l); day != want || ever != so {
			t.Fatalf("%v released on %d, %v, not %d, %v, by %v", c, day, ever, want, so, l)
		}
		if ever && day > 360*c.Year {
			some++
		}
	}
	if some < 50 {
		t.Errorf("%d are released behind the first day of their years", some)
	}
}

// P10.3

func TestBlockedAndOpen(t *testing.T) {
	l := lawOf(t, "line 1 12 500; wait 1 12 100 12-02-01; reach 1 12 40 9 500; reach 2.1 12 7 9.2 300; wait 1 13 20 12-01-01; wait 1 12 3 13-01-01; reach 1 13 9 9 100; amend 12-01-11 1 line 1 12 5")
	r := receiptsOf(t, "4330 9.1.1 300; 4340 9.2 300; 4350 9.1.1 -200; 4690 9.2 99; 4691 9.2 1")
	for _, c := range []struct {
		day                   int
		open                  string
		schools, roads, later int
	}{
		{-1, "[0 1 2 3 4 5]", 143, 7, 29}, {math.MinInt, "[0 1 2 3 4 5]", 143, 7, 29}, {0, "[0 1 2 3 4 5]", 143, 7, 29}, {4319, "[0 1 2 3 4 5]", 143, 7, 29},
		{4320, "[0 1 2 4 5]", 143, 7, 9}, {4339, "[0 1 2 4 5]", 143, 7, 9}, {4340, "[0 4 5]", 103, 0, 9}, {4349, "[0 4 5]", 103, 0, 9},
		{4350, "[4 5]", 3, 0, 9}, {4679, "[4 5]", 3, 0, 9}, {4680, "[5]", 0, 0, 9}, {4690, "[5]", 0, 0, 9}, {4691, "[]", 0, 0, 0}, {36000, "[]", 0, 0, 0}, {math.MaxInt, "[]", 0, 0, 0},
	} {
		if open, e := Open(l, r, c.day); fmt.Sprint(open) != c.open || e != api.OK {
			t.Errorf("day %d: open %v, error %d, not %s", c.day, open, e, c.open)
		}
		for _, x := range []struct {
			code       string
			year, want int
		}{{"1", 12, c.schools}, {"2.1", 12, c.roads}, {"1", 13, c.later}, {"2", 12, 0}, {"2.1", 13, 0}, {"", 12, 0}, {"x", 12, 0}, {"1", -1, 0}, {"1", 14, 0}, {"1", math.MinInt, 0}} {
			if n, e := Blocked(l, r, x.code, x.year, c.day); n != x.want || e != api.OK {
				t.Errorf("day %d: blocked %d of %q in %d, error %d, not %d", c.day, n, x.code, x.year, e, x.want)
			}
		}
	}
	if open, e := Open(lawOf(t, ""), r, 0); len(open) != 0 || e != api.OK {
		t.Errorf("without conditions: open %v, error %d", open, e)
	}
}

func TestMostConditions(t *testing.T) {
	l := lawOf(t, "")
	for range 20 {
		l.Conditions = append(l.Conditions, api.Condition{Kind: api.ConditionDay, Code: "1", Year: 12, Amount: mostAmount, Day: lastDay})
	}
	if n, e := Blocked(l, nil, "1", 12, lastDay-1); n != 20*mostAmount || e != api.OK {
		t.Errorf("blocked %d, error %d", n, e)
	}
	if n, e := Blocked(l, nil, "1", 12, lastDay); n != 0 || e != api.OK {
		t.Errorf("blocked %d on the day, error %d", n, e)
	}
}

// The consequences, and P1

func TestBlockedNeverGrows(t *testing.T) {
	r := rand.New(rand.NewSource(103))
	for range 150 {
		l := lawOf(t, "")
		for range r.Intn(20) {
			c := reachOf([]string{"2", "9", "9.1", "9.1.1", "9.2"}[r.Intn(5)], 12+r.Intn(2), r.Intn(200))
			if r.Intn(3) == 0 {
				c = waitOf(4300 + r.Intn(500))
			}
			c.Code, c.Amount = []string{"1", "2.1"}[r.Intn(2)], r.Intn(50)
			l.Conditions = append(l.Conditions, c)
		}
		receipts := randomReceipts(r, r.Intn(60), 20)
		before, e := Blocked(l, receipts, "1", 12, 4000)
		for day := 4000; day < 5100; day += 1 + r.Intn(30) {
			n, f := Blocked(l, receipts, "1", 12, day)
			open, g := Open(l, receipts, day)
			sum := 0
			for _, i := range open {
				if l.Conditions[i].Code == "1" && l.Conditions[i].Year == 12 {
					sum += l.Conditions[i].Amount
				}
			}
			if e != api.OK || f != api.OK || g != api.OK || n > before || n != sum {
				t.Fatalf("blocked %d, then %d on the day %d, of %v, by %v", before, n, day, l.Conditions, receipts)
			}
			before = n
		}
	}
}

func TestArgumentsStayAsTheyAre(t *testing.T) {
	r := rand.New(rand.NewSource(104))
	l := lawOf(t, "wait 1 12 100 12-02-01; reach 1 12 40 9 500")
	law := copyOf(l)
	for range 100 {
		receipts := randomReceipts(r, r.Intn(60), 20)
		r.Shuffle(len(receipts), func(i, j int) { receipts[i], receipts[j] = receipts[j], receipts[i] })
		list := slices.Clone(receipts)
		Check(l, receipts)
		Received(receipts, "9", 12, 4400)
		Released(l.Conditions[1], receipts)
		Holds(l.Conditions[1], receipts, 4400)
		Blocked(l, receipts, "1", 12, 4000)
		Open(l, receipts, 4000)
		if !budget.Same(l, law) || !slices.Equal(receipts, list) {
			t.Fatal("an argument was changed")
		}
	}
}
