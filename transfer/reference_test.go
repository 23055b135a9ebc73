package transfer

import (
	"fmt"
	"math/rand"
	"slices"
	"strings"
	"testing"

	"treasury/amendment"
	"treasury/api"
	"treasury/budget"
	"treasury/classification"
)

// The limits are written out here as the document has them, so that a wrong one shows.
const (
	mostAmount = 1000000000000
	mostNumber = 1000000
	lastDay    = 35990
)

// base is a law without lines, bounds and rules. Its first day is 4320, that of its second year is 4680.
const base = `years 12 2
heading 1 schools
heading 1.1 teachers
heading 1.2 houses
heading 2 roads
heading 3 courts
heading 3.1 judges
heading 3.1.1 old judges
heading 3.1.2 new judges
`

// lawOf returns the base with more articles, separated by semicolons.
func lawOf(t *testing.T, articles string) api.Law {
	t.Helper()
	return parsed(t, base+strings.ReplaceAll(articles, "; ", "\n"))
}

func parsed(t *testing.T, text string) api.Law {
	t.Helper()
	l, n, e := budget.Parse(text)
	if e != api.OK {
		t.Fatalf("%q is no law: line %d, error %d", text, n, e)
	}
	return l
}

// transferOf returns a transfer.
func transferOf(day, number, rule int, from, to string, year, amount int) api.Transfer {
	return api.Transfer{Day: day, Number: number, Rule: rule, From: from, To: to, Year: year, Amount: amount}
}

func lineOf(code string, year, amount int) api.Line {
	return api.Line{Code: code, Year: year, Amount: amount}
}

// badLists are laws and transfers with an error of Judge.
func badLists(t *testing.T) []struct {
	name string
	law  api.Law
	t    []api.Transfer
	want api.Errno
} {
	l := lawOf(t, "line 1.1 12 500; rule 1 1 2 10")
	tree, lines := copyOf(l), copyOf(l)
	tree.Tree[3].Code = "2.1"
	lines.Lines[0].Year = 11
	x := transferOf(4330, 2, 1, "1.1", "2", 12, 5)
	y := x
	y.Number = 1
	z := x
	z.Day--
	return []struct {
		name string
		law  api.Law
		t    []api.Transfer
		want api.Errno
	}{
		{"no law", api.Law{}, nil, api.ErrRange},
		{"no tree", tree, nil, api.ErrUnknown},
		{"a line of another year", lines, []api.Transfer{x}, api.ErrYear},
		{"a law ahead of many transfers", lines, make([]api.Transfer, 61), api.ErrYear},
		{"61 transfers", l, make([]api.Transfer, 61), api.ErrLimit},
		{"60 transfers alike", l, make([]api.Transfer, 60), api.ErrOrder},
		{"a transfer twice", l, []api.Transfer{x, x}, api.ErrOrder},
		{"numbers that descend", l, []api.Transfer{x, y}, api.ErrOrder},
		{"days that descend", l, []api.Transfer{x, z}, api.ErrOrder},
		{"the order ahead of what they say", l, []api.Transfer{{Number: -1}, {Number: -2}}, api.ErrOrder},
	}
}

// codesOf is a reference: the codes of transfers that are in order, of a valid law. It carries each transfer out, and looks at what comes of it.
func codesOf(l api.Law, transfers []api.Transfer) []api.Errno {
	var codes []api.Errno
	var accepted []api.Transfer
	for _, x := range transfers {
		e := codeOf(l, accepted, x)
		codes = append(codes, e)
		if e == api.OK {
			accepted = append(accepted, x)
		}
	}
	return codes
}

func codeOf(l api.Law, accepted []api.Transfer, x api.Transfer) api.Errno {
	if x.Number < 1 || x.Number > mostNumber || x.Rule < 1 || x.Rule > mostNumber || x.Day < 0 || x.Day > lastDay || x.Amount < 1 || x.Amount > mostAmount {
		return api.ErrRange
	}
	if !budget.Leaf(l, x.From) || !budget.Leaf(l, x.To) || x.From == x.To {
		return api.ErrCode
	}
	if x.Year < l.First || x.Year >= l.First+l.Years || x.Day/360 > x.Year {
		return api.ErrYear
	}
	force, e := amendment.InForce(l, x.Day)
	if e != api.OK {
		return e
	}
	percent := -1
	for _, r := range force.Rules {
		if r.Number == x.Rule && classification.Under(x.From, r.From) && classification.Under(x.To, r.To) {
			percent = r.Percent
		}
	}
	if percent < 0 {
		return api.ErrRule
	}
	share := x.Amount
	for _, a := range accepted {
		if a.Rule == x.Rule && a.Year == x.Year && a.From == x.From {
			share += a.Amount
		}
	}
	if share > budget.Line(force, x.From, x.Year)*percent/100 {
		return api.ErrShare
	}
	then := haveOf(force, append(slices.Clone(accepted), x), lastDay)
	if budget.Line(api.Law{Lines: then}, x.From, x.Year) < 0 {
		return api.ErrFunds
	}
	together := func(b api.Bound) int {
		sum, _ := classification.Sum(then, b.Code, b.Year)
		return sum
	}
	for _, b := range force.Ceilings {
		if (b.Year == -1 || b.Year == x.Year) && classification.Under(x.To, b.Code) && !classification.Under(x.From, b.Code) && together(b) > b.Amount {
			return api.ErrBound
		}
	}
	for _, b := range force.Floors {
		if (b.Year == -1 || b.Year == x.Year) && classification.Under(x.From, b.Code) && !classification.Under(x.To, b.Code) && together(b) < b.Amount {
			return api.ErrBound
		}
	}
	return api.OK
}

// haveOf returns what all leaves have in all years, with transfers until a day, also where it is 0.
func haveOf(force api.Law, accepted []api.Transfer, day int) []api.Line {
	var lines []api.Line
	for _, code := range classification.Leaves(force.Tree, "") {
		for year := force.First; year < force.First+force.Years; year++ {
			x := lineOf(code, year, budget.Line(force, code, year))
			for _, a := range accepted {
				if a.Day <= day && a.Year == year && a.To == code {
					x.Amount += a.Amount
				}
				if a.Day <= day && a.Year == year && a.From == code {
					x.Amount -= a.Amount
				}
			}
			lines = append(lines, x)
		}
	}
	return lines
}

// acceptedOf returns the transfers with the code OK.
func acceptedOf(transfers []api.Transfer, codes []api.Errno) []api.Transfer {
	var accepted []api.Transfer
	for i, x := range transfers {
		if codes[i] == api.OK {
			accepted = append(accepted, x)
		}
	}
	return accepted
}

// randomLaw returns the base with random lines, bounds, rules and amendments.
func randomLaw(r *rand.Rand) api.Law {
	l, _, _ := budget.Parse(base)
	leaves := classification.Leaves(l.Tree, "")
	for _, code := range leaves {
		for year := 12; year <= 13; year++ {
			if r.Intn(5) > 0 {
				l.Lines = append(l.Lines, lineOf(code, year, r.Intn(200)))
			}
		}
	}
	for _, h := range l.Tree {
		for _, year := range []int{-1, 12, 13} {
			sum, _ := classification.Sum(l.Lines, h.Code, year)
			if r.Intn(6) == 0 {
				l.Ceilings = append(l.Ceilings, api.Bound{Code: h.Code, Year: year, Amount: sum + r.Intn(60)})
			}
			if r.Intn(6) == 0 {
				l.Floors = append(l.Floors, api.Bound{Code: h.Code, Year: year, Amount: max(0, sum-r.Intn(60))})
			}
		}
	}
	top := func() string {
		code := leaves[r.Intn(len(leaves))]
		return strings.Join(strings.Split(code, ".")[:1+r.Intn(1+strings.Count(code, "."))], ".")
	}
	for i := range 5 {
		l.Rules = append(l.Rules, api.Rule{Number: 1 + 2*i, From: top(), To: top(), Percent: []int{0, 10, 33, 50, 100}[r.Intn(5)]})
	}
	for i := range r.Intn(3) {
		code := leaves[r.Intn(len(leaves))]
		l.Amendments = append(l.Amendments, api.Amendment{Day: 4320 + 200*i + r.Intn(200), Number: 1, Changes: []api.Change{{Kind: 1 + r.Intn(3), Code: code, Year: 12 + r.Intn(2), Amount: r.Intn(200)}}})
	}
	return l
}

// randomTransfers returns transfers in order, of which many fit a rule, but most of those are too large for something now and then.
func randomTransfers(r *rand.Rand, l api.Law, n int) []api.Transfer {
	var transfers []api.Transfer
	leaves := classification.Leaves(l.Tree, "")
	day := 4300
	for i := range n {
		rule := l.Rules[r.Intn(len(l.Rules))]
		from, to := classification.Leaves(l.Tree, rule.From), classification.Leaves(l.Tree, rule.To)
		x := transferOf(day, 1+i, rule.Number, from[r.Intn(len(from))], to[r.Intn(len(to))], 12+r.Intn(2), 1+r.Intn(30))
		switch r.Intn(40) {
		case 0:
			x.Rule++
		case 1:
			x.From = leaves[r.Intn(len(leaves))]
		case 2:
			x.To = leaves[r.Intn(len(leaves))]
		case 3:
			x.Year = 11 + r.Intn(4)
		case 4:
			x.From = l.Tree[r.Intn(len(l.Tree))].Code
		case 5:
			x.Amount = []int{0, -1, mostAmount, mostAmount + 1}[r.Intn(4)]
		}
		transfers = append(transfers, x)
		day += r.Intn(3) * r.Intn(20)
	}
	return transfers
}

// texts writes codes of errors.
func texts(codes []api.Errno) string { return strings.Trim(fmt.Sprint(codes), "[]") }

// copyOf returns a valid law once more, in memory of its own.
func copyOf(l api.Law) api.Law {
	c, _ := budget.Of(budget.Articles(l))
	return c
}
