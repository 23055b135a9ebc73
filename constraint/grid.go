package constraint

import (
	"strings"

	"treasury/api"
	"treasury/classification"
)

const allYears = -1

// What an arc bounds.
const (
	ofCeiling = iota // what the lines under a code may be together at most
	ofFloor          // what they have to be together at least
	ofLine           // the line of a leaf and a year
)

// span is a code and a year, or all years.
type span struct {
	code string
	year int
}

func spanOf(x api.Bound) span { return span{x.Code, x.Year} }

// arc is an arc of the network of a law, with what it bounds.
type arc struct {
	kind     int
	span     span
	from, to int
}

// grid numbers the places of the network of a law: years are numbered from 0 on, and all years come behind the last one.
type grid struct {
	codes  int
	years  int
	number map[string]int // of each code
}

func newGrid(l api.Law) grid {
	g := grid{codes: len(l.Tree), years: l.Years, number: map[string]int{}}
	for i, h := range l.Tree {
		g.number[h.Code] = i
	}
	return g
}

func (g grid) places() int { return 1 + 2*g.codes*(g.years+1) }

// upper returns the upper place of a year and a code; the place 0 stands for the parent that a code of one number does not have.
func (g grid) upper(year int, code string) int {
	if code == "" {
		return 0
	}
	return 1 + 2*(g.codes*year+g.number[code])
}

// lower returns the lower place of a year and a code, likewise.
func (g grid) lower(year int, code string) int {
	if code == "" {
		return 0
	}
	return g.upper(year, code) + 1
}

// arcsOf returns the arcs of the network of a valid law, in their order: money flows from place 0 down to the leaves of each year, from there to the leaves of all years, and up again.
func arcsOf(l api.Law) []arc {
	g := newGrid(l)
	var arcs []arc
	add := func(kind int, code string, year, from, to int) {
		arcs = append(arcs, arc{kind, span{code, year}, from, to})
	}
	for j := range l.Years {
		for _, h := range l.Tree {
			add(ofCeiling, h.Code, l.First+j, g.lower(j, parent(h.Code)), g.upper(j, h.Code))
			add(ofFloor, h.Code, l.First+j, g.upper(j, h.Code), g.lower(j, h.Code))
		}
	}
	for _, leaf := range classification.Leaves(l.Tree, "") {
		for j := range l.Years {
			add(ofLine, leaf, l.First+j, g.lower(j, leaf), g.upper(l.Years, leaf))
		}
	}
	for _, h := range l.Tree {
		add(ofFloor, h.Code, allYears, g.upper(l.Years, h.Code), g.lower(l.Years, h.Code))
		add(ofCeiling, h.Code, allYears, g.lower(l.Years, h.Code), g.upper(l.Years, parent(h.Code)))
	}
	return arcs
}

// parent returns a code without its last number: "" if it has only one.
func parent(code string) string { return code[:max(strings.LastIndex(code, "."), 0)] }

// bounds are what the arcs of a network have to look up.
type bounds struct {
	ceilings, floors map[span]int
	least, most      map[span]int // of lines
}

// boundsOf returns the bounds of a law and ranges of its lines.
func boundsOf(l api.Law, r []api.Range) bounds {
	b := bounds{map[span]int{}, map[span]int{}, map[span]int{}, map[span]int{}}
	for _, x := range l.Ceilings {
		b.ceilings[spanOf(x)] = x.Amount
	}
	for _, x := range l.Floors {
		b.floors[spanOf(x)] = x.Amount
	}
	for _, x := range l.Lines {
		s := span{x.Code, x.Year}
		b.least[s], b.most[s] = x.Amount, x.Amount
	}
	for _, x := range r {
		s := span{x.Code, x.Year}
		b.least[s], b.most[s] = x.Least, x.Most
	}
	return b
}

// of returns the least and the most that an arc carries.
func (b bounds) of(a arc) (int, int) {
	switch a.kind {
	case ofCeiling:
		if most, found := b.ceilings[a.span]; found {
			return 0, most
		}
		return 0, api.MaxTotal
	case ofFloor:
		return b.floors[a.span], api.MaxTotal
	}
	return b.least[a.span], b.most[a.span]
}
