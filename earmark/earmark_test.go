package earmark

import (
	"fmt"
	"math"
	"math/rand"
	"slices"
	"strings"
	"testing"

	"treasury/api"
	"treasury/budget"
	"treasury/condition"
)

// The limit is written out here as the document has it, so that a wrong one shows.
const mostAmount = 1000000000000

// base is a law without earmarks. Its first day is 4320, that of its second year is 4680.
const base = `years 12 2
heading 1 schools
heading 2 roads
heading 2.1 new roads
heading 2.9 repairs
heading 9 revenue
heading 9.1 taxes
heading 9.1.1 old taxes
heading 9.1.10 new taxes
heading 9.2 fees
heading 10 gifts
`

// lawOf returns the base with more articles, separated by semicolons.
func lawOf(t *testing.T, articles string) api.Law {
	t.Helper()
	l, n, e := budget.Parse(base + strings.ReplaceAll(articles, "; ", "\n"))
	if e != api.OK {
		t.Fatalf("%q is no law: line %d, error %d", articles, n, e)
	}
	return l
}

func receiptOf(day, number int, code string, amount int) api.Receipt {
	return api.Receipt{Day: day, Number: number, Code: code, Amount: amount}
}

// receiptsOf returns receipts that are written as "day code amount", separated by semicolons, with numbers from 1 on.
func receiptsOf(t *testing.T, text string) []api.Receipt {
	t.Helper()
	var l []api.Receipt
	for words := range strings.SplitSeq(text, "; ") {
		if words == "" {
			continue
		}
		x := api.Receipt{Number: len(l) + 1}
		if _, e := fmt.Sscan(words, &x.Day, &x.Code, &x.Amount); e != nil {
			t.Fatalf("%q is no receipt: %v", words, e)
		}
		l = append(l, x)
	}
	return l
}

func earmarkOf(source, code string, percent int) api.Earmark {
	return api.Earmark{Source: source, Code: code, Percent: percent}
}

// P11.1

func TestShare(t *testing.T) {
	for _, c := range []struct {
		name      string
		source    string
		percent   int
		receipts  string
		year, day int
		want      int
	}{
		{"the example", "9", 33, "4320 9.2 99", 12, 4320, 32},
		{"the example in three receipts", "9", 33, "4320 9.2 33; 4320 9.1.1 33; 4321 9.1.10 33", 12, 4321, 32},
		{"nothing received", "9", 33, "", 12, 4320, 0},
		{"nothing of it", "9", 0, "4320 9.2 99", 12, 4320, 0},
		{"all of it", "9", 100, "4320 9.2 99", 12, 4320, 99},
		{"1 per cent", "9", 1, "4320 9.2 99", 12, 4320, 0},
		{"1 per cent", "9", 1, "4320 9.2 100", 12, 4320, 1},
		{"99 per cent", "9", 99, "4320 9.2 1", 12, 4320, 0},
		{"up to the day", "9", 50, "4320 9.2 10; 4330 9.2 20; 4331 9.2 40", 12, 4330, 15},
		{"of the year", "9", 50, "4319 9.2 10; 4330 9.2 20; 4680 9.2 40", 12, 9999, 10},
		{"of another year", "9", 50, "4319 9.2 10; 4330 9.2 20; 4680 9.2 40", 13, 9999, 20},
		{"under the source alone", "9.1", 50, "4320 9.2 10; 4320 9.1.1 20; 4320 9.1.10 2; 4320 10 40", 12, 4320, 11},
		{"a refund", "9", 50, "4320 9.2 10; 4321 9.1.1 -3", 12, 4321, 3},
		{"as much back", "9", 50, "4320 9.2 10; 4321 9.1.1 -10", 12, 4321, 0},
		{"more back", "9", 50, "4320 9.2 10; 4321 9.1.1 -11", 12, 4321, 0},
		{"far more back", "9", 33, "4320 9.2 -1000000000000", 12, 4321, 0},
		{"the largest amount", "9", 100, "4320 9.2 1000000000000", 12, 4320, mostAmount},
		{"more than an amount", "9", 33, "4320 9.2 1000000000000; 4320 9.2 1000000000000; 4320 9.1.1 1000000000000; 4320 9.2 2", 12, 4320, 990000000000},
		{"all that is more than an amount", "9", 100, "4320 9.2 1000000000000; 4320 9.2 1", 12, 4320, mostAmount + 1},
		{"no source", "", 50, "4320 9.2 10", 12, 4320, 0},
		{"what is no code as source", "9.", 50, "4320 9.2 10", 12, 4320, 0},
		{"no day", "9", 50, "4320 9.2 10", 12, -1, 0},
		{"no year", "9", 50, "4320 9.2 10; -1 9.2 10", -1, 4320, 0},
		{"the ends of numbers", "9", 50, "4320 9.2 10", math.MinInt, math.MaxInt, 0},
	} {
		got, e := Share(earmarkOf(c.source, "1", c.percent), receiptsOf(t, c.receipts), c.year, c.day)
		if got != c.want || e != api.OK {
			t.Errorf("%s: %d, error %d, not %d", c.name, got, e, c.want)
		}
	}
}

func TestShareOfAnyReceipts(t *testing.T) {
	all := slices.Repeat([]api.Receipt{receiptOf(4320, 1, "9", mostAmount)}, 1000)
	for _, c := range []struct {
		name    string
		percent int
		r       []api.Receipt
		want    int
		e       api.Errno
	}{
		{"a percentage below 0", -1, all, 0, api.ErrRange},
		{"a percentage above 100", 101, all, 0, api.ErrRange},
		{"the ends of numbers", math.MinInt, nil, 0, api.ErrRange},
		{"the ends of numbers", math.MaxInt, nil, 0, api.ErrRange},
		{"a percentage above 100 of what is negative", 101, []api.Receipt{receiptOf(4320, 1, "9", -5)}, 0, api.ErrRange},
		{"as much as can be received", 100, all, 1000 * mostAmount, api.OK},
		{"a part of as much as can be received", 37, all, 370 * mostAmount, api.OK},
		{"1,001 receipts", 100, append(all, receiptOf(4320, 1, "9", mostAmount)), 1000 * mostAmount, api.OK},
		{"amounts that do not count", 50, []api.Receipt{receiptOf(4320, 1, "9", mostAmount+1), receiptOf(4320, 1, "9", math.MinInt), receiptOf(4320, 1, "9", 10)}, 5, api.OK},
	} {
		if got, e := Share(earmarkOf("9", "no code", c.percent), c.r, 12, 4320); got != c.want || e != c.e {
			t.Errorf("%s: %d, error %d, not %d, error %d", c.name, got, e, c.want, c.e)
		}
	}
}

// P11.2

// refused fails unless the functions of a law have an error, and nothing else.
func refused(t *testing.T, name string, l api.Law, r []api.Receipt, want api.Errno) {
	t.Helper()
	earned, e := Earned(l, r, "1", 12, 4330)
	shares, f := Shares(l, r, 12, 4330)
	rest, g := Rest(l, r, 12, 4330)
	if e != want || f != want || g != want || earned != 0 || shares != nil || rest != 0 || condition.Check(l, r) != want {
		t.Errorf("%s: earned %d, shares %v, rest %d, errors %d, %d, %d, not %d", name, earned, shares, rest, e, f, g, want)
	}
}

func TestErrors(t *testing.T) {
	l := lawOf(t, "earmark 9 1 80; earmark 9.1 2.1 20")
	change := func(change func(l *api.Law)) api.Law {
		x := l
		x.Tree, x.Earmarks = slices.Clone(l.Tree), slices.Clone(l.Earmarks)
		change(&x)
		return x
	}
	good := receiptsOf(t, "4320 9.2 100")
	refused(t, "no law", api.Law{}, good, api.ErrRange)
	refused(t, "no tree", change(func(l *api.Law) { l.Tree[3].Code = "3.1" }), good, api.ErrUnknown)
	refused(t, "more than all", change(func(l *api.Law) { l.Earmarks[0].Percent = 81 }), good, api.ErrShare)
	refused(t, "more than 100 per cent", change(func(l *api.Law) { l.Earmarks[0].Percent = 101 }), good, api.ErrRange)
	refused(t, "less than nothing", change(func(l *api.Law) { l.Earmarks[0].Percent = -1 }), make([]api.Receipt, 101), api.ErrRange)
	refused(t, "for no leaf", change(func(l *api.Law) { l.Earmarks[0].Code = "2" }), good, api.ErrCode)
	refused(t, "101 receipts", l, make([]api.Receipt, 101), api.ErrLimit)
	refused(t, "a receipt of 0", l, receiptsOf(t, "4320 9.2 0"), api.ErrRange)
	refused(t, "a receipt of no leaf", l, receiptsOf(t, "4320 9 5"), api.ErrCode)
	refused(t, "receipts out of order", l, receiptsOf(t, "4320 9.2 5; 4319 9.2 5"), api.ErrOrder)
}

func TestEarnedSharesAndRest(t *testing.T) {
	const receipts = "4319 9.2 5000; 4320 9.2 99; 4321 9.1.1 70; 4330 9.1.10 31; 4331 10 7; 4340 1 3; 4350 9.2 -50; 4360 9.1.1 -200; 4680 9.2 40"
	const earmarks = "earmark 9 1 33; earmark 9 2.1 10; earmark 9.1 1 50; earmark 9.2 2.9 57; earmark 10 1 25; earmark 10 9.2 0"
	for _, c := range []struct {
		year, day      int
		shares         string
		schools, roads int
		rest           int
	}{
		{12, -1, "[0 0 0 0 0 0]", 0, 0, 0},
		{12, 4319, "[0 0 0 0 0 0]", 0, 0, 0},
		{12, 4320, "[32 9 0 56 0 0]", 32, 9, 2},
		{12, 4321, "[55 16 35 56 0 0]", 90, 16, 7},
		{12, 4330, "[66 20 50 56 0 0]", 116, 20, 8},
		{12, 4331, "[66 20 50 56 1 0]", 117, 20, 14},
		{12, 4340, "[66 20 50 56 1 0]", 117, 20, 17},
		{12, 4350, "[49 15 50 27 1 0]", 100, 15, 18},
		{12, 4360, "[0 0 0 27 1 0]", 1, 0, -68},
		{12, 36000, "[0 0 0 27 1 0]", 1, 0, -68},
		{11, 36000, "[1650 500 0 2850 0 0]", 1650, 500, 0},
		{13, 36000, "[13 4 0 22 0 0]", 13, 4, 1},
		{14, 36000, "[0 0 0 0 0 0]", 0, 0, 0},
		{-1, math.MaxInt, "[0 0 0 0 0 0]", 0, 0, 0},
		{math.MinInt, math.MinInt, "[0 0 0 0 0 0]", 0, 0, 0},
	} {
		l, r := lawOf(t, earmarks), receiptsOf(t, receipts)
		shares, e := Shares(l, r, c.year, c.day)
		if fmt.Sprint(shares) != c.shares || e != api.OK {
			t.Errorf("year %d, day %d: shares %v, error %d, not %s", c.year, c.day, shares, e, c.shares)
		}
		rest, e := Rest(l, r, c.year, c.day)
		if rest != c.rest || e != api.OK {
			t.Errorf("year %d, day %d: rest %d, error %d, not %d", c.year, c.day, rest, e, c.rest)
		}
		for code, want := range map[string]int{"1": c.schools, "2.1": c.roads, "2": 0, "9": 0, "": 0, "x": 0, "9.2": 0} {
			if n, e := Earned(l, r, code, c.year, c.day); n != want || e != api.OK {
				t.Errorf("year %d, day %d: earned %d for %q, error %d, not %d", c.year, c.day, n, code, e, want)
			}
		}
	}
}

func TestWithoutEarmarks(t *testing.T) {
	l, r := lawOf(t, ""), receiptsOf(t, "4320 9.2 99; 4321 1 1")
	shares, e := Shares(l, r, 12, 4330)
	earned, f := Earned(l, r, "1", 12, 4330)
	rest, g := Rest(l, r, 12, 4330)
	if len(shares) != 0 || earned != 0 || rest != 100 || e != api.OK || f != api.OK || g != api.OK {
		t.Errorf("shares %v, earned %d, rest %d, errors %d, %d, %d", shares, earned, rest, e, f, g)
	}
}

func TestMostReceipts(t *testing.T) {
	l := lawOf(t, "earmark 9 1 60; earmark 9 2.1 40")
	var r []api.Receipt
	for i := range 100 {
		r = append(r, receiptOf(4320, i+1, []string{"9.1.1", "9.2"}[i%2], mostAmount))
	}
	shares, e := Shares(l, r, 12, 4320)
	if !slices.Equal(shares, []int{60 * mostAmount, 40 * mostAmount}) || e != api.OK {
		t.Errorf("shares %v, error %d", shares, e)
	}
	earned, e := Earned(l, r, "1", 12, 4320)
	if earned != 60*mostAmount || e != api.OK {
		t.Errorf("earned %d, error %d", earned, e)
	}
	l.Earmarks[1].Percent = 39
	if rest, e := Rest(l, r, 12, 4320); rest != mostAmount || e != api.OK {
		t.Errorf("rest %d, error %d", rest, e)
	}
	for i := range r {
		r[i].Amount = -mostAmount
	}
	if rest, e := Rest(l, r, 12, 4320); rest != -100*mostAmount || e != api.OK {
		t.Errorf("rest of refunds %d, error %d", rest, e)
	}
}

// The consequences, and P1

// randomEarmarks returns earmarks for some leaves, of not more than all of each source.
func randomEarmarks(r *rand.Rand) []api.Earmark {
	var l []api.Earmark
	for _, source := range []string{"9", "9.1", "9.2", "10"} {
		for _, code := range []string{"1", "2.1", "2.9", "9.2"} {
			if r.Intn(2) == 0 {
				l = append(l, earmarkOf(source, code, r.Intn(13)))
			}
		}
	}
	return l
}

// randomReceipts returns receipts of the year 12 for the base, in order; each is at least some amount.
func randomReceipts(r *rand.Rand, n, least int) []api.Receipt {
	var l []api.Receipt
	day := 4320
	for i := range n {
		l = append(l, receiptOf(day, 2*i+2, []string{"9.1.1", "9.1.10", "9.2", "10", "1"}[r.Intn(5)], least+r.Intn(200)))
		if l[i].Amount == 0 {
			l[i].Amount = 2
		}
		day += r.Intn(9)
	}
	return l
}

func TestRandomEarmarks(t *testing.T) {
	r := rand.New(rand.NewSource(111))
	for range 600 {
		l := lawOf(t, "")
		l.Earmarks = randomEarmarks(r)
		least := []int{1, -100}[r.Intn(2)]
		receipts := randomReceipts(r, r.Intn(50), least)
		day := 4310 + r.Intn(300)
		shares, e := Shares(l, receipts, 12, day)
		rest, f := Rest(l, receipts, 12, day)
		if e != api.OK || f != api.OK || len(shares) != len(l.Earmarks) {
			t.Fatalf("shares %v, rest %d, errors %d and %d", shares, rest, e, f)
		}
		whole := 0
		for _, x := range receipts {
			if x.Day <= day {
				whole += x.Amount
			}
		}
		earned := map[string]int{}
		for i, x := range l.Earmarks {
			share, e := Share(x, receipts, 12, day)
			if received := condition.Received(receipts, x.Source, 12, day); e != api.OK || share != shares[i] || share < 0 || received > 0 && (100*share > received*x.Percent || 100*(share+1) <= received*x.Percent) || received <= 0 && share != 0 {
				t.Fatalf("%d of %d is %v, error %d", share, received, x, e)
			}
			earned[x.Code] += share
			whole -= share
		}
		if rest != whole || least > 0 && rest < 0 {
			t.Fatalf("rest %d, not %d", rest, whole)
		}
		for _, h := range l.Tree {
			if n, e := Earned(l, receipts, h.Code, 12, day); n != earned[h.Code] || e != api.OK {
				t.Fatalf("earned %d for %s, error %d, not %d", n, h.Code, e, earned[h.Code])
			}
		}
	}
}

func TestSharesDoNotDependOnTheCut(t *testing.T) {
	r := rand.New(rand.NewSource(112))
	for range 200 {
		l := lawOf(t, "")
		l.Earmarks = randomEarmarks(r)
		receipts := randomReceipts(r, 1+r.Intn(30), 2)
		day := 4320 + r.Intn(150)
		before, _ := Shares(l, receipts, 12, day)
		i := r.Intn(len(receipts))
		part := receipts[i]
		part.Number++
		part.Amount = 1 + r.Intn(part.Amount-1)
		receipts[i].Amount -= part.Amount
		receipts = slices.Insert(receipts, i+1, part)
		if after, e := Shares(l, receipts, 12, day); e != api.OK || !slices.Equal(after, before) {
			t.Fatalf("%v of receipts, %v, error %d, of the same in two parts", before, after, e)
		}
		// The order within a day: the receipts of a day change their numbers.
		r.Shuffle(len(receipts), func(i, j int) {
			if receipts[i].Day == receipts[j].Day {
				receipts[i].Code, receipts[j].Code = receipts[j].Code, receipts[i].Code
				receipts[i].Amount, receipts[j].Amount = receipts[j].Amount, receipts[i].Amount
			}
		})
		if after, e := Shares(l, receipts, 12, day); e != api.OK || !slices.Equal(after, before) {
			t.Fatalf("%v of receipts, %v, error %d, of the same in another order", before, after, e)
		}
	}
}

func TestArgumentsStayAsTheyAre(t *testing.T) {
	r := rand.New(rand.NewSource(113))
	l := lawOf(t, "earmark 9 1 33; earmark 9.1 1 50")
	law := lawOf(t, "earmark 9 1 33; earmark 9.1 1 50")
	receipts := randomReceipts(r, 30, -50)
	list := slices.Clone(receipts)
	Share(l.Earmarks[0], receipts, 12, 4330)
	Earned(l, receipts, "1", 12, 4330)
	shares, _ := Shares(l, receipts, 12, 4330)
	clear(shares)
	Rest(l, receipts, 12, 4330)
	if !budget.Same(l, law) || !slices.Equal(receipts, list) {
		t.Error("an argument was changed")
	}
}
