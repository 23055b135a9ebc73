package condition

import (
	"fmt"
	"math/rand"
	"strings"
	"testing"

	"treasury/api"
	"treasury/budget"
	"treasury/classification"
)

// The limits are written out here as the document has them, so that a wrong one shows.
const (
	mostAmount = 1000000000000
	mostNumber = 1000000
	lastDay    = 35990
)

// base is a law without conditions. Its first day is 4320, that of its second year is 4680.
const base = `years 12 2
heading 1 schools
heading 2 roads
heading 2.1 new roads
heading 2.9 repairs
heading 9 revenue
heading 9.1 taxes
heading 9.1.1 old taxes
heading 9.1.10 new taxes
heading 9.2 fees
`

// lawOf returns the base with more articles, separated by semicolons.
func lawOf(t *testing.T, articles string) api.Law {
	t.Helper()
	l, n, e := budget.Parse(base + strings.ReplaceAll(articles, "; ", "\n"))
	if e != api.OK {
		t.Fatalf("%q is no law: line %d, error %d", articles, n, e)
	}
	return l
}

func receiptOf(day, number int, code string, amount int) api.Receipt {
	return api.Receipt{Day: day, Number: number, Code: code, Amount: amount}
}

// receiptsOf returns receipts that are written as "day code amount", separated by semicolons, with numbers from 1 on.
func receiptsOf(t *testing.T, text string) []api.Receipt {
	t.Helper()
	var l []api.Receipt
	for words := range strings.SplitSeq(text, "; ") {
		if words == "" {
			continue
		}
		x := api.Receipt{Number: len(l) + 1}
		if _, e := fmt.Sscan(words, &x.Day, &x.Code, &x.Amount); e != nil {
			t.Fatalf("%q is no receipt: %v", words, e)
		}
		l = append(l, x)
	}
	return l
}

func reachOf(source string, year, least int) api.Condition {
	return api.Condition{Kind: api.ConditionReceived, Code: "1", Year: year, Amount: 100, Source: source, Least: least}
}

func waitOf(day int) api.Condition {
	return api.Condition{Kind: api.ConditionDay, Code: "1", Year: 12, Amount: 100, Day: day}
}

// badLists are laws and receipts with an error of Check.
func badLists(t *testing.T) []struct {
	name string
	law  api.Law
	r    []api.Receipt
	want api.Errno
} {
	l := lawOf(t, "line 1 12 500; wait 1 12 100 12-05-01; reach 1 12 50 9 500")
	tree, lines := copyOf(l), copyOf(l)
	tree.Tree[3].Code = "3.1"
	lines.Lines[0].Year = 11
	x := receiptOf(4330, 2, "1", 5)
	with := func(change func(x *api.Receipt)) []api.Receipt {
		y := x
		change(&y)
		return []api.Receipt{receiptOf(4330, 1, "9.2", -5), y}
	}
	return []struct {
		name string
		law  api.Law
		r    []api.Receipt
		want api.Errno
	}{
		{"no law", api.Law{}, nil, api.ErrRange},
		{"no tree", tree, nil, api.ErrUnknown},
		{"a line of another year", lines, []api.Receipt{x}, api.ErrYear},
		{"a law ahead of many receipts", lines, make([]api.Receipt, 101), api.ErrYear},
		{"101 receipts", l, make([]api.Receipt, 101), api.ErrLimit},
		{"100 receipts", l, make([]api.Receipt, 100), api.ErrRange},
		{"a number of 0", l, with(func(x *api.Receipt) { x.Number = 0 }), api.ErrRange},
		{"a number too large", l, with(func(x *api.Receipt) { x.Number = mostNumber + 1 }), api.ErrRange},
		{"a day below 0", l, with(func(x *api.Receipt) { x.Day = -1 }), api.ErrRange},
		{"a day too large", l, with(func(x *api.Receipt) { x.Day = lastDay + 1 }), api.ErrRange},
		{"an amount of 0", l, with(func(x *api.Receipt) { x.Amount = 0 }), api.ErrRange},
		{"an amount too large", l, with(func(x *api.Receipt) { x.Amount = mostAmount + 1 }), api.ErrRange},
		{"a refund too large", l, with(func(x *api.Receipt) { x.Amount = -mostAmount - 1 }), api.ErrRange},
		{"the least number as an amount", l, with(func(x *api.Receipt) { x.Amount = -1 << 63 }), api.ErrRange},
		{"a code with others under it", l, with(func(x *api.Receipt) { x.Code = "9.1" }), api.ErrCode},
		{"a code that is not there", l, with(func(x *api.Receipt) { x.Code = "3" }), api.ErrCode},
		{"no code", l, with(func(x *api.Receipt) { x.Code = "" }), api.ErrCode},
		{"a receipt twice", l, with(func(x *api.Receipt) { x.Number = 1 }), api.ErrOrder},
		{"an earlier day", l, with(func(x *api.Receipt) { x.Day = 4329 }), api.ErrOrder},
		{"ranges ahead of codes", l, with(func(x *api.Receipt) { x.Code, x.Number = "x", -1 }), api.ErrRange},
		{"codes ahead of the order", l, with(func(x *api.Receipt) { x.Code, x.Day = "x", 4329 }), api.ErrCode},
		{"the first one ahead of the second one", l, []api.Receipt{receiptOf(0, 1, "x", 1), {}}, api.ErrCode},
		{"the order ahead of the third one", l, []api.Receipt{x, x, {}}, api.ErrOrder},
	}
}

// receivedOf is a reference: what was received under a source in a year up to a day.
func receivedOf(r []api.Receipt, source string, year, day int) int {
	sum := 0
	for i, x := range r {
		if i < 1000 && x.Amount >= -mostAmount && x.Amount <= mostAmount && x.Day >= 0 && x.Day <= 36000 && x.Day >= 360*year && x.Day < 360*year+360 && x.Day <= day && classification.Under(x.Code, source) {
			sum += x.Amount
		}
	}
	return sum
}

// releasedOf is a reference: it looks at all days of the year of a condition of receipts, one after the other.
func releasedOf(c api.Condition, r []api.Receipt) (int, bool) {
	for day := max(0, 360*c.Year); day < 360*c.Year+360 && day <= 36000; day++ {
		if receivedOf(r, c.Source, c.Year, day) >= c.Least {
			return day, true
		}
	}
	return 0, false
}

// randomReceipts returns receipts in the years 11 to 14, valid for the base, ordered by day and number.
func randomReceipts(r *rand.Rand, n, days int) []api.Receipt {
	var l []api.Receipt
	day := 4320 - 360 + r.Intn(720)
	for i := range n {
		x := receiptOf(day, i+1, []string{"1", "2.1", "9.1.1", "9.1.10", "9.1.1", "9.1.10", "9.2"}[r.Intn(7)], r.Intn(100)-30)
		if x.Amount == 0 {
			x.Amount = 1
		}
		l = append(l, x)
		day += r.Intn(days)
	}
	return l
}

// copyOf returns a valid law once more, in memory of its own.
func copyOf(l api.Law) api.Law {
	c, _ := budget.Of(budget.Articles(l))
	return c
}
