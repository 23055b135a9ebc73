package available

import (
	"fmt"
	"math/rand"
	"slices"
	"strings"
	"testing"

	"treasury/amendment"
	"treasury/api"
	"treasury/budget"
	"treasury/classification"
	"treasury/transfer"
)

// The limits are written out here as the document has them, so that a wrong one shows.
const (
	mostAmount = 1000000000000
	mostNumber = 1000000
	lastDay    = 35990
)

// base is a law without lines. Its first day is 4320, that of its second year is 4680.
const base = `years 12 2
heading 1 schools
heading 2 roads
heading 2.1 new roads
heading 2.9 repairs
heading 9 revenue
heading 9.1 taxes
heading 9.2 fees
`

// lawOf returns the base with more articles, separated by semicolons.
func lawOf(t *testing.T, articles string) api.Law {
	t.Helper()
	l, n, e := budget.Parse(base + strings.ReplaceAll(articles, "; ", "\n"))
	if e != api.OK {
		t.Fatalf("%q is no law: line %d, error %d", articles, n, e)
	}
	return l
}

func transferOf(day, number, rule int, from, to string, year, amount int) api.Transfer {
	return api.Transfer{Day: day, Number: number, Rule: rule, From: from, To: to, Year: year, Amount: amount}
}

func receiptOf(day, number int, code string, amount int) api.Receipt {
	return api.Receipt{Day: day, Number: number, Code: code, Amount: amount}
}

func carryOf(day, number int, code string, year, amount int) api.Carry {
	return api.Carry{Day: day, Number: number, Code: code, Year: year, Amount: amount}
}

func lineOf(code string, year, amount int) api.Line {
	return api.Line{Code: code, Year: year, Amount: amount}
}

// textOf returns reasons as "kind number amount", separated by semicolons.
func textOf(l []api.Reason) string {
	var words []string
	for _, x := range l {
		words = append(words, fmt.Sprint(x.Kind, x.Number, x.Amount))
	}
	return strings.Join(words, "; ")
}

// reasonsOf is a reference: the reasons of an appropriation, read off the chapter, for facts that are right.
func reasonsOf(f api.Facts, code string, year, day int) []api.Reason {
	var all []api.Reason
	force, _ := amendment.InForce(f.Law, day)
	for _, x := range force.Lines {
		if x.Code == code && x.Year == year {
			all = append(all, api.Reason{Kind: 1, Amount: x.Amount})
		}
	}
	codes, _ := transfer.Judge(f.Law, f.Transfers)
	for i, x := range f.Transfers {
		if codes[i] != 0 || x.Year != year || x.Day > day {
			continue
		}
		switch code {
		case x.To:
			all = append(all, api.Reason{Kind: 2, Number: x.Number, Amount: x.Amount})
		case x.From:
			all = append(all, api.Reason{Kind: 3, Number: x.Number, Amount: -x.Amount})
		}
	}
	for i, x := range f.Law.Earmarks {
		if x.Code == code {
			all = append(all, api.Reason{Kind: 4, Number: i + 1, Amount: max(0, receivedOf(f.Receipts, x.Source, year, day)) * x.Percent / 100})
		}
	}
	for i, x := range f.Law.Conditions {
		if x.Code == code && x.Year == year && !holdsOf(f, x, day) {
			all = append(all, api.Reason{Kind: 5, Number: i + 1, Amount: -x.Amount})
		}
	}
	for _, x := range f.Carried {
		if x.Code == code && x.Year == year && x.Day <= day {
			all = append(all, api.Reason{Kind: 6, Number: x.Number, Amount: x.Amount})
		}
	}
	return slices.DeleteFunc(all, func(r api.Reason) bool { return r.Amount == 0 })
}

// receivedOf is a reference: what was received under a source in a year up to a day.
func receivedOf(r []api.Receipt, source string, year, day int) int {
	sum := 0
	for _, x := range r {
		if x.Day/360 == year && x.Day <= day && classification.Under(x.Code, source) {
			sum += x.Amount
		}
	}
	return sum
}

// holdsOf is a reference: whether a condition holds on a day, by all days of its year until then.
func holdsOf(f api.Facts, c api.Condition, day int) bool {
	if c.Kind == api.ConditionDay {
		return c.Day <= day
	}
	for d := 360 * c.Year; d < 360*c.Year+360 && d <= day; d++ {
		if receivedOf(f.Receipts, c.Source, c.Year, d) >= c.Least {
			return true
		}
	}
	return false
}

func sumOf(l []api.Reason) int {
	sum := 0
	for _, x := range l {
		sum += x.Amount
	}
	return sum
}

var leaves = []string{"1", "2.1", "2.9", "9.1", "9.2"}

// randomFacts returns facts that are right.
func randomFacts(r *rand.Rand) api.Facts {
	l, _, _ := budget.Parse(base)
	for _, code := range leaves {
		for year := 12; year <= 13; year++ {
			if r.Intn(4) > 0 {
				l.Lines = append(l.Lines, lineOf(code, year, 100+r.Intn(500)))
			}
		}
	}
	for _, source := range []string{"2", "9", "9.1", "9.2"} {
		for _, code := range leaves[:3] {
			if r.Intn(3) == 0 {
				l.Earmarks = append(l.Earmarks, api.Earmark{Source: source, Code: code, Percent: r.Intn(17)})
			}
		}
	}
	for range r.Intn(8) {
		c := api.Condition{Kind: api.ConditionDay, Code: leaves[r.Intn(3)], Year: 12 + r.Intn(2), Amount: r.Intn(90), Day: r.Intn(2) * (4300 + r.Intn(700))}
		if r.Intn(2) == 0 {
			c.Kind, c.Day, c.Source, c.Least = api.ConditionReceived, 0, []string{"9", "9.1", "9.2"}[r.Intn(3)], r.Intn(400)
		}
		l.Conditions = append(l.Conditions, c)
	}
	l.Rules = []api.Rule{{Number: 1, From: "1", To: "2", Percent: 30}, {Number: 2, From: "2", To: "2", Percent: 50}, {Number: 3, From: "2", To: "1", Percent: 20}}
	for i := range r.Intn(4) {
		l.Amendments = append(l.Amendments, api.Amendment{Day: 4300 + 200*i + r.Intn(150), Number: 1, Changes: []api.Change{{Kind: api.ChangeLine, Code: leaves[r.Intn(3)], Year: 12 + r.Intn(2), Amount: r.Intn(3) * 200}}})
	}
	return api.Facts{Law: l, Transfers: randomTransfers(r), Receipts: randomReceipts(r), Carried: randomCarried(r)}
}

func randomTransfers(r *rand.Rand) []api.Transfer {
	var l []api.Transfer
	day := 4300
	for i := range r.Intn(20) {
		day += r.Intn(60)
		l = append(l, transferOf(day, i+1, 1+r.Intn(3), leaves[r.Intn(3)], leaves[r.Intn(3)], 12+r.Intn(2), 1+r.Intn(60)))
	}
	return l
}

func randomReceipts(r *rand.Rand) []api.Receipt {
	var l []api.Receipt
	day := 4200
	for i := range r.Intn(30) {
		day += r.Intn(50)
		l = append(l, receiptOf(day, i+1, leaves[r.Intn(5)], 3*r.Intn(60)-40))
	}
	return l
}

func randomCarried(r *rand.Rand) []api.Carry {
	var l []api.Carry
	day := 4300
	for i := range r.Intn(12) {
		day += r.Intn(70)
		l = append(l, carryOf(day, i+1, leaves[r.Intn(3)], 12+r.Intn(2), 3*r.Intn(60)-70))
	}
	return l
}

// copyOf returns facts with a valid law once more, in memory of their own.
func copyOf(f api.Facts) api.Facts {
	l, _ := budget.Of(budget.Articles(f.Law))
	return api.Facts{Law: l, Transfers: slices.Clone(f.Transfers), Receipts: slices.Clone(f.Receipts), Carried: slices.Clone(f.Carried)}
}

func sameFacts(a, b api.Facts) bool {
	return budget.Same(a.Law, b.Law) && slices.Equal(a.Transfers, b.Transfers) && slices.Equal(a.Receipts, b.Receipts) && slices.Equal(a.Carried, b.Carried)
}
