// Package rights is layer 13: it divides appropriations among offices: the treasury's side and an office's side, each with numbers that only grow. See shared/doc/13-rights.md.
package rights

import (
	"cmp"
	"slices"

	"treasury/api"
	"treasury/classification"
)

const maxYear = 99

// Valid reports whether a treasury is valid.
func Valid(t api.Treasury) bool {
	if !within(t.Offices, 1, api.MaxOffices) || len(t.Pots) > api.MaxPots {
		return false
	}
	for i, p := range t.Pots {
		if !validPot(p, t.Offices) || i > 0 && compare(t.Pots[i-1], p.Code, p.Year) >= 0 {
			return false
		}
	}
	return true
}

// Pot returns the first pot with a code and a year, and whether there is one.
func Pot(t api.Treasury, code string, year int) (api.Pot, bool) {
	i := index(t, code, year)
	if i < 0 {
		return api.Pot{}, false
	}
	return copyOf(t.Pots[i]), true
}

// Out returns what is out at all offices.
func Out(p api.Pot) int {
	out := 0
	for k := range min(len(p.Granted), len(p.Heard)) {
		out += p.Granted[k] - p.Heard[k]
	}
	return out
}

// Free returns what can still be granted. It is negative if there is a shortfall.
func Free(p api.Pot) int { return p.Total - Out(p) }

// Shortfall returns what is out above the total.
func Shortfall(p api.Pot) int { return max(Out(p)-p.Total, 0) }

// Set gives a pot a total. A pot that is not there is put into its order.
func Set(t api.Treasury, code string, year, total int) (api.Treasury, api.Errno) {
	switch {
	case !Valid(t):
		return api.Treasury{}, api.ErrInvalid
	case !isCode(code):
		return api.Treasury{}, api.ErrCode
	case !within(year, 0, maxYear) || !within(total, -api.MaxTotal, api.MaxTotal):
		return api.Treasury{}, api.ErrRange
	case index(t, code, year) < 0 && len(t.Pots) == api.MaxPots:
		return api.Treasury{}, api.ErrLimit
	}
	return change(with(t, code, year), code, year, func(p *api.Pot) api.Errno {
		p.Total = total
		return api.OK
	})
}

// Grant makes what was granted to an office greater.
func Grant(t api.Treasury, office int, code string, year, amount int) (api.Treasury, api.Errno) {
	return change(t, code, year, func(p *api.Pot) api.Errno {
		switch {
		case !isOffice(t, office):
			return api.ErrUnknown
		case !within(amount, 1, api.MaxTotal):
			return api.ErrRange
		}
		amounts := make([]int, t.Offices)
		amounts[office-1] = amount
		return give(p, amounts)
	})
}

// Divide makes what was granted to each office greater by its amount.
func Divide(t api.Treasury, code string, year int, amounts []int) (api.Treasury, api.Errno) {
	return change(t, code, year, func(p *api.Pot) api.Errno {
		if len(amounts) != t.Offices {
			return api.ErrUnknown
		}
		for _, n := range amounts {
			if !isTotal(n) {
				return api.ErrRange
			}
		}
		return give(p, amounts)
	})
}

// Ask makes what was asked back of an office greater.
func Ask(t api.Treasury, office int, code string, year, amount int) (api.Treasury, api.Errno) {
	return change(t, code, year, func(p *api.Pot) api.Errno {
		switch {
		case !isOffice(t, office):
			return api.ErrUnknown
		case !within(amount, 1, api.MaxTotal):
			return api.ErrRange
		case p.Asked[office-1]+amount > p.Granted[office-1]:
			return api.ErrFunds
		}
		p.Asked[office-1] += amount
		return api.OK
	})
}

// Hear returns the treasury after a message of an office. What was returned only grows, so that late and doubled messages do no harm.
func Hear(t api.Treasury, m api.Message) (api.Treasury, api.Errno) {
	if m.To != 0 {
		return api.Treasury{}, api.ErrInvalid
	}
	return change(t, m.Code, m.Year, func(p *api.Pot) api.Errno {
		if !isOffice(t, m.From) {
			return api.ErrUnknown
		}
		k := m.From - 1
		if !within(m.Returned, 0, p.Granted[k]) || !isTotal(m.Used) {
			return api.ErrRange
		}
		p.Heard[k], p.Used[k] = max(p.Heard[k], m.Returned), m.Used
		return api.OK
	})
}

// Tell returns the message of the treasury to an office.
func Tell(t api.Treasury, office int, code string, year int) (api.Message, api.Errno) {
	if !Valid(t) {
		return api.Message{}, api.ErrInvalid
	}
	i := index(t, code, year)
	if i < 0 || !isOffice(t, office) {
		return api.Message{}, api.ErrUnknown
	}
	p := t.Pots[i]
	return api.Message{To: office, Code: code, Year: year, Granted: p.Granted[office-1], Asked: p.Asked[office-1]}, api.OK
}

// change returns a treasury after something was done with one of its pots, or the error of that.
func change(t api.Treasury, code string, year int, do func(p *api.Pot) api.Errno) (api.Treasury, api.Errno) {
	if !Valid(t) {
		return api.Treasury{}, api.ErrInvalid
	}
	i := index(t, code, year)
	if i < 0 {
		return api.Treasury{}, api.ErrUnknown
	}
	next := api.Treasury{Offices: t.Offices}
	for _, p := range t.Pots {
		next.Pots = append(next.Pots, copyOf(p))
	}
	if e := do(&next.Pots[i]); e != api.OK {
		return api.Treasury{}, e
	}
	return next, api.OK
}

// with returns a treasury that has a pot, with zeros if it is not there yet.
func with(t api.Treasury, code string, year int) api.Treasury {
	if index(t, code, year) >= 0 {
		return t
	}
	n := t.Offices
	p := api.Pot{Code: code, Year: year, Granted: make([]int, n), Heard: make([]int, n), Asked: make([]int, n), Used: make([]int, n)}
	i := 0
	for i < len(t.Pots) && compare(t.Pots[i], code, year) < 0 {
		i++
	}
	return api.Treasury{Offices: n, Pots: slices.Insert(slices.Clone(t.Pots), i, p)}
}

// give makes what was granted to each office greater by its amount.
func give(p *api.Pot, amounts []int) api.Errno {
	switch {
	case sum(amounts) > Free(*p):
		return api.ErrFunds
	case sum(p.Granted)+sum(amounts) > api.MaxTotal:
		return api.ErrLimit
	}
	for k, n := range amounts {
		p.Granted[k] += n
	}
	return api.OK
}

// validPot reports whether a pot is valid, for so many offices.
func validPot(p api.Pot, offices int) bool {
	if !isCode(p.Code) || !within(p.Year, 0, maxYear) || !within(p.Total, -api.MaxTotal, api.MaxTotal) {
		return false
	}
	for _, l := range [][]int{p.Granted, p.Heard, p.Asked, p.Used} {
		if len(l) != offices || slices.ContainsFunc(l, func(n int) bool { return !isTotal(n) }) {
			return false
		}
	}
	for k, granted := range p.Granted {
		if p.Heard[k] > granted || p.Asked[k] > granted {
			return false
		}
	}
	return sum(p.Granted) <= api.MaxTotal
}

// index returns the place of the first pot with a code and a year, or -1.
func index(t api.Treasury, code string, year int) int {
	return slices.IndexFunc(t.Pots, func(p api.Pot) bool { return p.Code == code && p.Year == year })
}

// copyOf returns a pot in memory of its own.
func copyOf(p api.Pot) api.Pot {
	p.Granted, p.Heard, p.Asked, p.Used = slices.Clone(p.Granted), slices.Clone(p.Heard), slices.Clone(p.Asked), slices.Clone(p.Used)
	return p
}

// compare returns how a pot stands to one with a code and a year.
func compare(p api.Pot, code string, year int) int {
	return cmp.Or(classification.Compare(p.Code, code), cmp.Compare(p.Year, year))
}

func sum(l []int) int {
	sum := 0
	for _, n := range l {
		sum += n
	}
	return sum
}

func isOffice(t api.Treasury, office int) bool { return within(office, 1, t.Offices) }

func isCode(code string) bool { return len(classification.Parts(code)) > 0 }

func isTotal(n int) bool { return within(n, 0, api.MaxTotal) }

// within reports whether n is from least to most.
func within(n, least, most int) bool { return least <= n && n <= most }
