package available

import (
	"treasury/amendment"
	"treasury/api"
	"treasury/budget"
	"treasury/condition"
	"treasury/earmark"
	"treasury/money"
)

// checked are facts without an error, with the transfers that were accepted.
type checked struct {
	api.Facts
	accepted []api.Transfer
}

// view is checked facts in a year on a day. What does not depend on the leaf is found only once for all leaves, as that takes far longer than the rest.
type view struct {
	checked
	year, day int
	force     api.Law
	shares    []int // of the earmarks of the law
}

// on returns the view of a year and a day.
func (c checked) on(year, day int) (view, api.Errno) {
	if !budget.In(c.Law, year) {
		return view{}, api.ErrYear
	}
	force, e := amendment.InForce(c.Law, day)
	if e != api.OK {
		return view{}, e
	}
	shares, e := earmark.Shares(c.Law, c.Receipts, year, day)
	if e != api.OK {
		return view{}, e
	}
	return view{c, year, day, force, shares}, api.OK
}

// sum returns the reasons of the appropriation of a leaf, and their sum.
func (v view) sum(code string) ([]api.Reason, int, api.Errno) {
	l := v.reasons(code)
	var amounts []int
	for _, x := range l {
		amounts = append(amounts, x.Amount)
	}
	sum, e := money.Sum(amounts)
	if e != api.OK {
		return nil, 0, e
	}
	return l, sum, api.OK
}

// reasons returns the reasons of the appropriation of a leaf.
func (v view) reasons(code string) []api.Reason {
	var l []api.Reason
	add := func(kind, number, amount int) {
		if amount != 0 {
			l = append(l, api.Reason{Kind: kind, Number: number, Amount: amount})
		}
	}
	add(api.ReasonLine, 0, budget.Line(v.force, code, v.year))
	for _, x := range v.accepted {
		if x.Year != v.year || x.Day > v.day {
			continue
		}
		if x.To == code {
			add(api.ReasonIn, x.Number, x.Amount)
		}
		if x.From == code {
			add(api.ReasonOut, x.Number, -x.Amount)
		}
	}
	for i, x := range v.Law.Earmarks {
		if x.Code == code {
			add(api.ReasonEarmark, i+1, v.shares[i])
		}
	}
	for i, x := range v.Law.Conditions {
		if x.Code == code && x.Year == v.year && !condition.Holds(x, v.Receipts, v.day) {
			add(api.ReasonBlocked, i+1, -x.Amount)
		}
	}
	for _, x := range v.Carried {
		if x.Code == code && x.Year == v.year && x.Day <= v.day {
			add(api.ReasonCarried, x.Number, x.Amount)
		}
	}
	return l
}
