package register

import (
	"slices"

	"treasury/api"
	"treasury/money"
)

const (
	maxID       = 1000 // of a security, and of a holder
	monthDays   = 30
	maxMaturity = api.MaxDay - 10
)

// Security reports whether a security is valid.
func Security(s api.Security) bool {
	term := s.Maturity - s.Issued
	return within(s.ID, 1, maxID) && within(s.Unit, 1, api.MaxBid) &&
		within(s.Issued, 0, api.MaxDay) && within(s.Maturity, 0, maxMaturity) && within(term, monthDays, api.MaxTerm) && term%monthDays == 0 &&
		within(s.Rate, 0, api.MaxRate) && fitsEvery(s, term)
}

// fitsEvery reports whether a security has coupons as securities can have them in a term, or none and no rate.
func fitsEvery(s api.Security, term int) bool {
	switch s.Every {
	case 0:
		return s.Rate == 0
	case 1, 3, 6, 12:
		return term%(s.Every*monthDays) == 0
	}
	return false
}

// Check returns the first error that applies to a register.
func Check(r api.Register) api.Errno {
	switch {
	case len(r.Securities) > api.MaxSecurities || len(r.Moves) > api.MaxMoves:
		return api.ErrLimit
	case !rightSecurities(r.Securities) || !rightMoves(r):
		return api.ErrRegister
	}
	return api.OK
}

// rightSecurities reports whether securities ascend, and are valid.
func rightSecurities(l []api.Security) bool {
	for i, s := range l {
		if !Security(s) || i > 0 && l[i-1].ID >= s.ID {
			return false
		}
	}
	return true
}

// rightMoves reports whether all moves of a register are possible, and make its holdings.
func rightMoves(r api.Register) bool {
	var l []api.Holding
	before := api.Move{}
	for _, m := range r.Moves {
		if m.Number != before.Number+1 || fault(r, l, before, m) != api.OK {
			return false
		}
		l = carryOut(l, m)
		before = m
	}
	return slices.Equal(l, r.Holdings)
}

// fault returns the first error of a move on holdings behind another one.
func fault(r api.Register, l []api.Holding, before, m api.Move) api.Errno {
	s, found := Find(r, m.Security)
	last := s.Maturity
	if m.Kind == api.MoveRedeem {
		last = api.MaxDay
	}
	switch {
	case !found:
		return api.ErrSecurity
	case m.Day < before.Day || !within(m.Day, s.Issued, last):
		return api.ErrOrder
	case m.Amount <= 0 || !money.Valid(m.Amount) || m.Amount%s.Unit != 0:
		return api.ErrUnit
	case !rightEnds(m):
		return api.ErrUnknown
	case m.Kind != api.MoveIssue && has(l, m) < m.Amount:
		return api.ErrHolding
	case m.Kind == api.MoveIssue && outstanding(l, m.Security)+m.Amount > api.MaxAmount:
		return api.ErrRange
	}
	return api.OK
}

// rightEnds reports whether a move has a kind, and leads from and to those that moves of its kind do.
func rightEnds(m api.Move) bool {
	switch m.Kind {
	case api.MoveIssue:
		return m.From == 0 && isHolder(m.To)
	case api.MoveTransfer:
		return isHolder(m.From) && isHolder(m.To) && m.From != m.To
	case api.MoveRedeem:
		return isHolder(m.From) && m.To == 0
	}
	return false
}

// has returns what the holder has from whom a move leads.
func has(l []api.Holding, m api.Move) int {
	return sumOf(l, func(h api.Holding) bool { return h.Security == m.Security && h.Holder == m.From })
}

// outstanding returns what all holders have of a security.
func outstanding(l []api.Holding, id int) int {
	return sumOf(l, func(h api.Holding) bool { return h.Security == id })
}

// sumOf returns the sum of the holdings that are wanted.
func sumOf(l []api.Holding, wanted func(api.Holding) bool) int {
	sum := 0
	for _, h := range l {
		if wanted(h) {
			sum += h.Amount
		}
	}
	return sum
}

func isHolder(n int) bool { return within(n, 1, maxID) }

// within reports whether n is from least to most.
func within(n, least, most int) bool { return least <= n && n <= most }
