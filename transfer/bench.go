package transfer

import (
	"slices"

	"treasury/amendment"
	"treasury/api"
	"treasury/budget"
	"treasury/calendar"
	"treasury/classification"
	"treasury/money"
)

const (
	maxDay   = api.MaxDay - 10
	allYears = -1
)

// bench judges transfers: it knows the law, and the transfers that were accepted so far.
type bench struct {
	law      api.Law
	leaves   []string
	eras     map[int]era // by the number of amendments that have come into force
	accepted []api.Transfer
}

// era is the law in force from one amendment to the next one, or its error.
type era struct {
	law api.Law
	e   api.Errno
}

// limits are how much a transfer may have at most: by the share of its rule, by what it takes it from, and by the bounds. They may be negative.
type limits struct{ share, funds, bounds int }

// judge returns the code of a transfer.
func (b bench) judge(x api.Transfer) api.Errno {
	most, e := b.limits(x)
	switch {
	case e != api.OK:
		return e
	case x.Amount > most.share:
		return api.ErrShare
	case x.Amount > most.funds:
		return api.ErrFunds
	case x.Amount > most.bounds:
		return api.ErrBound
	}
	return api.OK
}

// limits returns how much a transfer may have at most, or its error if no amount is accepted.
func (b bench) limits(x api.Transfer) (limits, api.Errno) {
	if e := b.fault(x); e != api.OK {
		return limits{}, e
	}
	force, e := b.inForce(x.Day)
	if e != api.OK {
		return limits{}, e
	}
	i := slices.IndexFunc(force.Rules, func(r api.Rule) bool { return permits(r, x) })
	if i < 0 {
		return limits{}, api.ErrRule
	}
	share, e := money.Percent(budget.Line(force, x.From, x.Year), force.Rules[i].Percent)
	if e != api.OK {
		return limits{}, e
	}
	return limits{share - b.used(x), b.has(force, x.From, x.Year, x.Day), b.slack(force, x)}, api.OK
}

// inForce returns the law in force on a day. It is made only once for all days between two amendments, as that takes far longer than all the rest.
func (b bench) inForce(day int) (api.Law, api.Errno) {
	n := 0
	for n < len(b.law.Amendments) && b.law.Amendments[n].Day <= day {
		n++
	}
	x, found := b.eras[n]
	if !found {
		x.law, x.e = amendment.InForce(b.law, day)
		b.eras[n] = x
	}
	return x.law, x.e
}

// fault returns the error of what a transfer says, as far as the law in force does not matter.
func (b bench) fault(x api.Transfer) api.Errno {
	switch {
	case !isNumber(x.Number) || !isNumber(x.Rule) || !within(x.Day, 0, maxDay) || !within(x.Amount, 1, api.MaxAmount):
		return api.ErrRange
	case !slices.Contains(b.leaves, x.From) || !slices.Contains(b.leaves, x.To) || x.From == x.To:
		return api.ErrCode
	case !budget.In(b.law, x.Year) || calendar.Year(x.Day) > x.Year:
		return api.ErrYear
	}
	return api.OK
}

// permits reports whether a rule is that of a transfer and permits it.
func permits(r api.Rule, x api.Transfer) bool {
	return r.Number == x.Rule && classification.Under(x.From, r.From) && classification.Under(x.To, r.To)
}

// used returns what accepted transfers have of the share that a transfer needs.
func (b bench) used(x api.Transfer) int {
	sum := 0
	for _, a := range b.accepted {
		if a.Rule == x.Rule && a.Year == x.Year && a.From == x.From {
			sum += a.Amount
		}
	}
	return sum
}

// slack returns how much a transfer can have at most before a bound is broken.
func (b bench) slack(force api.Law, x api.Transfer) int {
	// Under a bound that has both ends, or none of them, a transfer changes nothing.
	matters := func(c api.Bound, inside, outside string) bool {
		return (c.Year == x.Year || c.Year == allYears) && classification.Under(inside, c.Code) && !classification.Under(outside, c.Code)
	}
	slack := api.MaxAmount
	for _, c := range force.Ceilings {
		if matters(c, x.To, x.From) {
			slack = min(slack, c.Amount-b.together(force, c))
		}
	}
	for _, c := range force.Floors {
		if matters(c, x.From, x.To) {
			slack = min(slack, b.together(force, c)-c.Amount)
		}
	}
	return slack
}

// together returns what the leaves under a bound have, in its year or in all years.
func (b bench) together(force api.Law, c api.Bound) int {
	// The lines of a valid law are too few for an error.
	sum, _ := budget.Total(force, c.Code, c.Year)
	for _, x := range b.accepted {
		if c.Year != x.Year && c.Year != allYears {
			continue
		}
		if classification.Under(x.To, c.Code) {
			sum += x.Amount
		}
		if classification.Under(x.From, c.Code) {
			sum -= x.Amount
		}
	}
	return sum
}

// has returns what a leaf has in a year, with the law in force on a day and the transfers until then.
func (b bench) has(force api.Law, code string, year, day int) int {
	in, out := b.moved(code, year, day)
	return budget.Line(force, code, year) + in - out
}

// moved returns what accepted transfers of a year, until a day, have brought to a leaf and what they have taken from it.
func (b bench) moved(code string, year, day int) (in, out int) {
	for _, x := range b.accepted {
		if x.Year != year || x.Day > day {
			continue
		}
		if x.To == code {
			in += x.Amount
		}
		if x.From == code {
			out += x.Amount
		}
	}
	return in, out
}

func isNumber(n int) bool { return within(n, 1, api.MaxNumber) }

// within reports whether n is from least to most.
func within(n, least, most int) bool { return least <= n && n <= most }
