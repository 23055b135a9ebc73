package amendment

import (
	"cmp"
	"slices"

	"treasury/api"
	"treasury/classification"
)

// The amounts of changes that take something away.
const (
	noAmount  = 0 // of a line or a floor, as one of 0 does nothing
	noCeiling = -1
)

// place is what a change sets: the line, the ceiling or the floor of a code and a year.
type place struct {
	kind int
	code string
	year int
}

// placeOf returns the place that a change sets.
func placeOf(x api.Change) place { return place{kind: x.Kind, code: x.Code, year: x.Year} }

// compare returns -1, 0 or 1 by the order of changes; 0 only for equal places.
func (p place) compare(q place) int {
	return cmp.Or(cmp.Compare(p.kind, q.kind), classification.Compare(p.code, q.code), cmp.Compare(p.year, q.year))
}

// change returns the change that sets a place to an amount.
func (p place) change(amount int) api.Change {
	return api.Change{Kind: p.kind, Code: p.code, Year: p.year, Amount: amount}
}

// shelf has the lines of a law, its ceilings or its floors, in the order of their places. An item may be of any type that has what a line has.
type shelf[T any] struct {
	kind  int // of the places
	none  int // the amount of a place where nothing stands
	items []T
	line  func(T) api.Line
	item  func(api.Line) T
}

// at returns the place of an item.
func (s *shelf[T]) at(x T) place {
	line := s.line(x)
	return place{kind: s.kind, code: line.Code, year: line.Year}
}

// find returns where a place is among the items, and whether one stands there.
func (s *shelf[T]) find(p place) (int, bool) {
	return slices.BinarySearchFunc(s.items, p, func(x T, p place) int { return s.at(x).compare(p) })
}

// amount returns the amount of a place.
func (s *shelf[T]) amount(p place) int {
	i, found := s.find(p)
	if !found {
		return s.none
	}
	return s.line(s.items[i]).Amount
}

// set carries a change out.
func (s *shelf[T]) set(x api.Change) {
	i, found := s.find(placeOf(x))
	item := s.item(api.Line{Code: x.Code, Year: x.Year, Amount: x.Amount})
	switch {
	case found && x.Amount == s.none:
		s.items = slices.Delete(s.items, i, i+1)
	case found:
		s.items[i] = item
	case x.Amount != s.none:
		s.items = slices.Insert(s.items, i, item)
	}
}

// difference returns the changes that make the amounts of a second shelf out of those of a first one.
func difference[T any](a, b shelf[T]) []api.Change {
	var places []place
	for _, x := range slices.Concat(a.items, b.items) {
		places = append(places, a.at(x))
	}
	slices.SortFunc(places, place.compare)
	var changes []api.Change
	for _, p := range slices.Compact(places) {
		if n := b.amount(p); n != a.amount(p) {
			changes = append(changes, p.change(n))
		}
	}
	return changes
}

// shelves has all that changes set.
type shelves struct {
	lines            shelf[api.Line]
	ceilings, floors shelf[api.Bound]
}

// shelvesOf puts the lines and bounds of a law on shelves, without copying them.
func shelvesOf(l api.Law) shelves {
	same := func(x api.Line) api.Line { return x }
	line := func(x api.Bound) api.Line { return api.Line(x) }
	bound := func(x api.Line) api.Bound { return api.Bound(x) }
	return shelves{
		lines:    shelf[api.Line]{kind: api.ChangeLine, none: noAmount, items: l.Lines, line: same, item: same},
		ceilings: shelf[api.Bound]{kind: api.ChangeCeiling, none: noCeiling, items: l.Ceilings, line: line, item: bound},
		floors:   shelf[api.Bound]{kind: api.ChangeFloor, none: noAmount, items: l.Floors, line: line, item: bound},
	}
}

// set carries a change out on the shelf of its kind.
func (s *shelves) set(x api.Change) {
	switch x.Kind {
	case api.ChangeLine:
		s.lines.set(x)
	case api.ChangeCeiling:
		s.ceilings.set(x)
	case api.ChangeFloor:
		s.floors.set(x)
	}
}
