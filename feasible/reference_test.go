package feasible

import (
	"cmp"
	"fmt"
	"math/rand"
	"slices"
	"strings"
	"testing"

	"treasury/api"
	"treasury/budget"
	"treasury/classification"
)

// The limits are written out here as the document has them, so that a wrong one shows.
const (
	mostAmount = 1000000000000
	mostTotal  = 1000000000000000
)

// base is a law without lines and bounds.
const base = `years 12 2
heading 1 schools
heading 2 roads
heading 2.1 new roads
heading 2.9 repairs
heading 2.10 bridges
heading 9 revenue
`

// lawOf returns the base with more articles, separated by semicolons.
func lawOf(t *testing.T, articles string) api.Law {
	t.Helper()
	return parsed(t, base+strings.ReplaceAll(articles, "; ", "\n"))
}

func parsed(t *testing.T, text string) api.Law {
	t.Helper()
	l, n, e := budget.Parse(text)
	if e != api.OK {
		t.Fatalf("%q is no law: line %d, error %d", text, n, e)
	}
	return l
}

func lineOf(code string, year, amount int) api.Line {
	return api.Line{Code: code, Year: year, Amount: amount}
}

func rangeOf(code string, year, least, most int) api.Range {
	return api.Range{Code: code, Year: year, Least: least, Most: most}
}

func boundOf(code string, year, amount int) api.Bound {
	return api.Bound{Code: code, Year: year, Amount: amount}
}

// netWith returns a network with so many places and arcs of four numbers each.
func netWith(places int, numbers ...int) api.Net {
	n := api.Net{Places: places}
	for x := range slices.Chunk(numbers, 4) {
		n.Arcs = append(n.Arcs, api.Arc{From: x[0], To: x[1], Low: x[2], High: x[3]})
	}
	return n
}

// randomLaw returns a law with a random tree of up to so many codes, lines and bounds; amounts of lines are up to most. Bounds leave room to a random solution, but in half of the laws some of them may not, so that many laws can be met, and many can not.
func randomLaw(r *rand.Rand, codes, years, most int) (api.Law, []api.Range) {
	l := api.Law{First: r.Intn(96), Years: 1 + r.Intn(years), Tree: randomTree(r, codes)}
	var ranges []api.Range
	var solution []api.Line
	for _, code := range classification.Leaves(l.Tree, "") {
		for j := range l.Years {
			amount, year := r.Intn(most+1), l.First+j
			if r.Intn(2) == 0 && len(l.Lines) < 120 {
				l.Lines = append(l.Lines, lineOf(code, year, amount))
			}
			if r.Intn(4) > 0 && len(ranges) < 120 {
				ranges = append(ranges, rangeOf(code, year, r.Intn(amount+1), amount+r.Intn(most-amount+1)))
			} else {
				amount = budget.Line(l, code, year)
			}
			solution = append(solution, lineOf(code, year, amount))
		}
	}
	slack, fault := 1+r.Intn(8), 1+r.Intn(2)*(most/40+1)
	for _, h := range l.Tree {
		for j := -1; j < l.Years; j++ {
			x := boundOf(h.Code, l.First+j, 0)
			if j < 0 {
				x.Year = -1
			}
			sum, _ := classification.Sum(solution, x.Code, x.Year)
			if x.Amount = min(sum+r.Intn(sum/slack+2)-r.Intn(fault), mostAmount); x.Amount >= 0 && r.Intn(2) == 0 && len(l.Ceilings) < 60 {
				l.Ceilings = append(l.Ceilings, x)
			}
			if x.Amount = min(sum-r.Intn(sum/slack+2)+r.Intn(fault), mostAmount); x.Amount >= 0 && r.Intn(2) == 0 && len(l.Floors) < 60 {
				l.Floors = append(l.Floors, x)
			}
		}
	}
	return l, ranges
}

// randomTree returns a tree of up to so many codes.
func randomTree(r *rand.Rand, most int) []api.Heading {
	var codes []string
	for n := r.Intn(1 + most); len(codes) < n; {
		code := fmt.Sprint(1 + r.Intn(12))
		if len(codes) > 0 && r.Intn(3) > 0 {
			code = codes[r.Intn(len(codes))] + "." + code
		}
		if len(classification.Parts(code)) > 0 && !slices.Contains(codes, code) {
			codes = append(codes, code)
		}
	}
	slices.SortFunc(codes, classification.Compare)
	var tree []api.Heading
	for _, code := range codes {
		tree = append(tree, api.Heading{Code: code, Name: "n"})
	}
	return tree
}

// keepsOf is a reference: whether lines are a solution of a valid law and valid ranges, without a network.
func keepsOf(l api.Law, ranges []api.Range, lines []api.Line) bool {
	for i, x := range lines {
		if !budget.Leaf(l, x.Code) || !budget.In(l, x.Year) || x.Amount <= 0 || x.Amount > mostAmount || i > 0 && compareLines(lines[i-1], x) >= 0 {
			return false
		}
	}
	for _, code := range classification.Leaves(l.Tree, "") {
		for j := range l.Years {
			year := l.First + j
			least := budget.Line(l, code, year)
			most := least
			for _, x := range ranges {
				if x.Code == code && x.Year == year {
					least, most = x.Least, x.Most
				}
			}
			if n := budget.Line(api.Law{Lines: lines}, code, year); n < least || n > most {
				return false
			}
		}
	}
	together := func(x api.Bound) int {
		n, _ := classification.Sum(lines, x.Code, x.Year)
		return n
	}
	exceeded := func(x api.Bound) bool { return together(x) > x.Amount }
	missed := func(x api.Bound) bool { return together(x) < x.Amount }
	return !slices.ContainsFunc(l.Ceilings, exceeded) && !slices.ContainsFunc(l.Floors, missed)
}

func compareLines(a, b api.Line) int {
	return cmp.Or(classification.Compare(a.Code, b.Code), cmp.Compare(a.Year, b.Year))
}

// sidesOf is a reference: the sums of a network for places, both valid.
func sidesOf(n api.Net, places []int) (out, in int) {
	for _, a := range n.Arcs {
		from, to := slices.Contains(places, a.From), slices.Contains(places, a.To)
		if from && !to {
			out += a.Low
		} else if to && !from {
			in += a.High
		}
	}
	return out, in
}

// explanationOf is a reference: the floors and the ceilings of places, by the order of the arcs alone.
func explanationOf(l api.Law, n api.Net, places []int) (floors, ceilings []api.Bound) {
	arcs := n.Arcs
	next := func(code string, year int) {
		a := arcs[0]
		arcs = arcs[1:]
		from, to := slices.Contains(places, a.From), slices.Contains(places, a.To)
		if from && !to && a.Low > 0 {
			floors = append(floors, boundOf(code, year, a.Low))
		}
		if to && !from {
			ceilings = append(ceilings, boundOf(code, year, a.High))
		}
	}
	for year := l.First; year < l.First+l.Years; year++ {
		for _, h := range l.Tree {
			next(h.Code, year)
			next(h.Code, year)
		}
	}
	for _, code := range classification.Leaves(l.Tree, "") {
		for year := l.First; year < l.First+l.Years; year++ {
			next(code, year)
		}
	}
	for _, h := range l.Tree {
		next(h.Code, -1)
		next(h.Code, -1)
	}
	return floors, ceilings
}

// together adds up the amounts of bounds.
func together(l []api.Bound) int {
	n := 0
	for _, x := range l {
		n += x.Amount
	}
	return n
}

// copyOf returns a valid law once more, in memory of its own.
func copyOf(l api.Law) api.Law {
	c, _ := budget.Of(budget.Articles(l))
	return c
}
