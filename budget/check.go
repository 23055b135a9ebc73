package budget

import (
	"cmp"
	"slices"

	"treasury/api"
	"treasury/calendar"
	"treasury/classification"
	"treasury/money"
)

const (
	maxYear    = 99
	maxDay     = api.MaxDay - 10
	maxPercent = 100
	open       = -1 // all years, or no amount
)

// checker knows what the entries of a law are checked against: its years and its codes.
type checker struct {
	law    api.Law
	leaves []string
	codes  map[string]bool // all codes, and whether they are leaves
}

// newChecker returns the checker of a law whose tree is valid.
func newChecker(l api.Law) checker {
	c := checker{law: l, leaves: classification.Leaves(l.Tree, ""), codes: map[string]bool{}}
	for _, h := range l.Tree {
		c.codes[h.Code] = false
	}
	for _, code := range c.leaves {
		c.codes[code] = true
	}
	return c
}

// inOrder returns the first error of a list: for each entry in order its fault, then ErrOrder if it does not come strictly behind the one before, and then the faults inside it.
func inOrder[T any](l []T, fault func(T) api.Errno, compare func(a, b T) int, inside ...func(T) api.Errno) api.Errno {
	for i, x := range l {
		if e := fault(x); e != api.OK {
			return e
		}
		if i > 0 && compare(l[i-1], x) >= 0 {
			return api.ErrOrder
		}
		for _, part := range inside {
			if e := part(x); e != api.OK {
				return e
			}
		}
	}
	return api.OK
}

func (c checker) lines() api.Errno { return inOrder(c.law.Lines, c.line, compareLines) }

// bounds looks at the ceilings of the law, or at its floors.
func (c checker) bounds(l []api.Bound) api.Errno { return inOrder(l, c.bound, compareBounds) }

func (c checker) earmarks() api.Errno { return inOrder(c.law.Earmarks, c.earmark, compareEarmarks) }

// shares looks at the earmarks of what is received under a leaf, which cannot give away more than all of it.
func (c checker) shares() api.Errno {
	for _, leaf := range c.leaves {
		sum := 0
		for _, x := range c.law.Earmarks {
			if classification.Under(leaf, x.Source) {
				sum += x.Percent
			}
		}
		if sum > maxPercent {
			return api.ErrShare
		}
	}
	return api.OK
}

// conditions are in no order.
func (c checker) conditions() api.Errno {
	for _, x := range c.law.Conditions {
		if e := c.condition(x); e != api.OK {
			return e
		}
	}
	return api.OK
}

func (c checker) rules() api.Errno { return inOrder(c.law.Rules, c.rule, compareRules) }

func (c checker) amendments() api.Errno {
	return inOrder(c.law.Amendments, c.amendment, compareAmendments, c.changes)
}

// changes looks at what an amendment changes.
func (c checker) changes(x api.Amendment) api.Errno {
	if len(x.Changes) == 0 {
		return api.ErrInvalid
	}
	return inOrder(x.Changes, c.change, compareChanges)
}

func (c checker) line(x api.Line) api.Errno {
	switch {
	case !c.leaf(x.Code):
		return api.ErrCode
	case !In(c.law, x.Year):
		return api.ErrYear
	case !money.Valid(x.Amount):
		return api.ErrRange
	}
	return api.OK
}

func (c checker) bound(x api.Bound) api.Errno {
	switch {
	case !c.has(x.Code):
		return api.ErrCode
	case x.Year != open && !In(c.law, x.Year):
		return api.ErrYear
	case !money.Valid(x.Amount):
		return api.ErrRange
	}
	return api.OK
}

func (c checker) earmark(x api.Earmark) api.Errno {
	switch {
	case !c.has(x.Source) || !c.leaf(x.Code):
		return api.ErrCode
	case !within(x.Percent, 0, maxPercent):
		return api.ErrRange
	}
	return api.OK
}

func (c checker) condition(x api.Condition) api.Errno {
	switch {
	case !fitsKind(x):
		return api.ErrInvalid
	case !c.leaf(x.Code) || x.Kind == api.ConditionReceived && !c.has(x.Source):
		return api.ErrCode
	case !In(c.law, x.Year):
		return api.ErrYear
	case !money.Valid(x.Amount) || !money.Valid(x.Least) || !isDay(x.Day):
		return api.ErrRange
	}
	return api.OK
}

func (c checker) rule(x api.Rule) api.Errno {
	switch {
	case !within(x.Number, 1, api.MaxNumber) || !within(x.Percent, 0, maxPercent):
		return api.ErrRange
	case !c.has(x.From) || !c.has(x.To):
		return api.ErrCode
	}
	return api.OK
}

func (c checker) amendment(x api.Amendment) api.Errno {
	if !isDay(x.Day) || !within(x.Number, 1, api.MaxNumber) {
		return api.ErrRange
	}
	return api.OK
}

func (c checker) change(x api.Change) api.Errno {
	ofLine := x.Kind == api.ChangeLine
	none := x.Kind == api.ChangeCeiling && x.Amount == open
	switch {
	case !within(x.Kind, api.ChangeLine, api.ChangeFloor):
		return api.ErrInvalid
	case !c.has(x.Code) || ofLine && !c.leaf(x.Code):
		return api.ErrCode
	case !In(c.law, x.Year) && (ofLine || x.Year != open):
		return api.ErrYear
	case !money.Valid(x.Amount) && !none:
		return api.ErrRange
	}
	return api.OK
}

// has reports whether a code is in the law.
func (c checker) has(code string) bool {
	_, found := c.codes[code]
	return found
}

// leaf reports whether a code is a leaf of the law.
func (c checker) leaf(code string) bool { return c.codes[code] }

// hasYears reports whether a law has years, all of them in their range.
func hasYears(l api.Law) bool {
	return within(l.First, 0, maxYear) && within(l.Years, 1, api.MaxYears) && l.First+l.Years-1 <= maxYear
}

// exceedsLimits reports whether a list of a law is too long.
func exceedsLimits(l api.Law) bool {
	return len(l.Lines) > api.MaxLines ||
		len(l.Ceilings) > api.MaxBounds ||
		len(l.Floors) > api.MaxBounds ||
		len(l.Earmarks) > api.MaxEarmarks ||
		len(l.Conditions) > api.MaxConditions ||
		len(l.Rules) > api.MaxRules ||
		len(l.Amendments) > api.MaxAmendments ||
		slices.ContainsFunc(l.Amendments, func(x api.Amendment) bool { return len(x.Changes) > api.MaxChanges })
}

// fitsKind reports whether a condition has a kind, and nothing that belongs to another one.
func fitsKind(x api.Condition) bool {
	switch x.Kind {
	case api.ConditionDay:
		return x.Source == "" && x.Least == 0
	case api.ConditionReceived:
		return x.Day == 0
	}
	return false
}

// isDay reports whether n is a day that a law may name.
func isDay(n int) bool { return calendar.Valid(n) && n <= maxDay }

// within reports whether n is from least to most.
func within(n, least, most int) bool { return least <= n && n <= most }

func compareHeadings(a, b api.Heading) int { return classification.Compare(a.Code, b.Code) }

func compareLines(a, b api.Line) int {
	return cmp.Or(classification.Compare(a.Code, b.Code), cmp.Compare(a.Year, b.Year))
}

func compareBounds(a, b api.Bound) int {
	return cmp.Or(classification.Compare(a.Code, b.Code), cmp.Compare(a.Year, b.Year))
}

func compareEarmarks(a, b api.Earmark) int {
	return cmp.Or(classification.Compare(a.Source, b.Source), classification.Compare(a.Code, b.Code))
}

func compareRules(a, b api.Rule) int { return cmp.Compare(a.Number, b.Number) }

func compareAmendments(a, b api.Amendment) int {
	return cmp.Or(cmp.Compare(a.Day, b.Day), cmp.Compare(a.Number, b.Number))
}

func compareChanges(a, b api.Change) int {
	return cmp.Or(cmp.Compare(a.Kind, b.Kind), classification.Compare(a.Code, b.Code), cmp.Compare(a.Year, b.Year))
}
