package constraint

import (
	"fmt"
	"math/rand"
	"slices"
	"strings"
	"testing"

	"treasury/api"
	"treasury/budget"
	"treasury/classification"
)

// The limits are written out here as the document has them, so that a wrong one shows.
const (
	mostAmount = 1000000000000
	mostTotal  = 1000000000000000
)

// base is a law without lines and bounds.
const base = `years 12 2
heading 1 schools
heading 2 roads
heading 2.1 new roads
heading 2.9 repairs
heading 2.10 bridges
heading 9 revenue
`

// lawOf returns the base with more articles, separated by semicolons.
func lawOf(t *testing.T, articles string) api.Law {
	t.Helper()
	return parsed(t, base+strings.ReplaceAll(articles, "; ", "\n"))
}

func parsed(t *testing.T, text string) api.Law {
	t.Helper()
	l, n, e := budget.Parse(text)
	if e != api.OK {
		t.Fatalf("%q is no law: line %d, error %d", text, n, e)
	}
	return l
}

func lineOf(code string, year, amount int) api.Line {
	return api.Line{Code: code, Year: year, Amount: amount}
}

func rangeOf(code string, year, least, most int) api.Range {
	return api.Range{Code: code, Year: year, Least: least, Most: most}
}

// randomLaw returns a law with a random tree, lines and bounds; amounts are up to most.
func randomLaw(r *rand.Rand, most int) api.Law {
	l := api.Law{First: r.Intn(96), Years: 1 + r.Intn(4), Tree: randomTree(r)}
	leaves := classification.Leaves(l.Tree, "")
	for _, code := range leaves {
		for year := range l.Years {
			if r.Intn(2) == 0 && len(l.Lines) < 120 {
				l.Lines = append(l.Lines, api.Line{Code: code, Year: l.First + year, Amount: r.Intn(most + 1)})
			}
		}
	}
	for _, h := range l.Tree {
		for year := -1; year < l.Years; year++ {
			x := api.Bound{Code: h.Code, Year: l.First + year, Amount: min(r.Intn(2*most+1), mostAmount)}
			if year < 0 {
				x.Year = -1
			}
			if r.Intn(4) == 0 && len(l.Ceilings) < 60 {
				l.Ceilings = append(l.Ceilings, x)
			}
			if x.Amount = r.Intn(most + 1); r.Intn(4) == 0 && len(l.Floors) < 60 {
				l.Floors = append(l.Floors, x)
			}
		}
	}
	return l
}

// randomTree returns a tree of up to 60 codes.
func randomTree(r *rand.Rand) []api.Heading {
	var codes []string
	for n := r.Intn(1 + []int{4, 12, 60}[r.Intn(3)]); len(codes) < n; {
		code := fmt.Sprint(1 + r.Intn(12))
		if len(codes) > 0 && r.Intn(3) > 0 {
			code = codes[r.Intn(len(codes))] + "." + code
		}
		if len(classification.Parts(code)) > 0 && !slices.Contains(codes, code) {
			codes = append(codes, code)
		}
	}
	slices.SortFunc(codes, classification.Compare)
	var tree []api.Heading
	for _, code := range codes {
		tree = append(tree, api.Heading{Code: code, Name: "n"})
	}
	return tree
}

// randomRanges returns ranges for some lines of a law.
func randomRanges(r *rand.Rand, l api.Law, most int) []api.Range {
	var ranges []api.Range
	for _, code := range classification.Leaves(l.Tree, "") {
		for year := range l.Years {
			if r.Intn(2) == 0 && len(ranges) < 120 {
				least := r.Intn(most + 1)
				ranges = append(ranges, api.Range{Code: code, Year: l.First + year, Least: least, Most: least + r.Intn(most+1-least)})
			}
		}
	}
	return ranges
}

// netOf is a reference: the network of a valid law, by the numbers of the chapter alone.
func netOf(l api.Law, r []api.Range) api.Net {
	n, years := len(l.Tree), l.Years
	number := func(code string) int {
		return slices.IndexFunc(l.Tree, func(h api.Heading) bool { return h.Code == code })
	}
	// parentPlace is the place 0, or the upper or lower place of the parent of the code with a number.
	parentPlace := func(i, j, lower int) int {
		parts := classification.Parts(l.Tree[i].Code)
		if len(parts) == 1 {
			return 0
		}
		return 1 + 2*(n*j+number(classification.Code(parts[:len(parts)-1]))) + lower
	}
	bound := func(l []api.Bound, code string, year, none int) int {
		for _, x := range l {
			if x.Code == code && x.Year == year {
				return x.Amount
			}
		}
		return none
	}
	net := api.Net{Places: 1 + 2*n*(years+1)}
	add := func(from, to, low, high int) {
		net.Arcs = append(net.Arcs, api.Arc{From: from, To: to, Low: low, High: high})
	}
	for k := range years * n {
		j, i := k/n, k%n
		code, year, up := l.Tree[i].Code, l.First+j, 1+2*(n*j+i)
		add(parentPlace(i, j, 1), up, 0, bound(l.Ceilings, code, year, mostTotal))
		add(up, up+1, bound(l.Floors, code, year, 0), mostTotal)
	}
	for _, leaf := range classification.Leaves(l.Tree, "") {
		for j := range years {
			low := budget.Line(l, leaf, l.First+j)
			high := low
			for _, x := range r {
				if x.Code == leaf && x.Year == l.First+j {
					low, high = x.Least, x.Most
				}
			}
			i := number(leaf)
			add(2+2*(n*j+i), 1+2*(n*years+i), low, high)
		}
	}
	for i, h := range l.Tree {
		up := 1 + 2*(n*years+i)
		add(up, up+1, bound(l.Floors, h.Code, -1, 0), mostTotal)
		add(up+1, parentPlace(i, years, 0), 0, bound(l.Ceilings, h.Code, -1, mostTotal))
	}
	return net
}

// flowOf is a reference: the flow of lines of a valid law.
func flowOf(l api.Law, lines []api.Line) []int {
	var flow []int
	sum := func(code string, year int) int {
		n, _ := classification.Sum(lines, code, year)
		return n
	}
	for k := range l.Years * len(l.Tree) {
		n := sum(l.Tree[k%len(l.Tree)].Code, l.First+k/len(l.Tree))
		flow = append(flow, n, n)
	}
	for _, leaf := range classification.Leaves(l.Tree, "") {
		for j := range l.Years {
			flow = append(flow, sum(leaf, l.First+j))
		}
	}
	for _, h := range l.Tree {
		n := sum(h.Code, -1)
		flow = append(flow, n, n)
	}
	return flow
}

// copyOf returns a valid law once more, in memory of its own.
func copyOf(l api.Law) api.Law {
	c, _ := budget.Of(budget.Articles(l))
	return c
}
