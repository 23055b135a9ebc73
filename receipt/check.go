package receipt

import (
	"slices"

	"treasury/api"
	"treasury/classification"
	"treasury/money"
)

const maxMatches = api.MaxClaims + api.MaxIncomes

// Claim reports whether a claim is valid.
func Claim(c api.Claim) bool {
	return isNumber(c.ID) && isNumber(c.Payer) && isAmount(c.Amount) && within(c.Open, 0, c.Amount) && within(c.Day, 0, api.MaxDay) && len(classification.Parts(c.Code)) > 0
}

// Check returns the first error that applies to cash.
func Check(c api.Cash) api.Errno {
	switch {
	case len(c.Claims) > api.MaxClaims || len(c.Incomes) > api.MaxIncomes || len(c.Matches) > maxMatches:
		return api.ErrLimit
	case !rightClaims(c.Claims):
		return api.ErrClaim
	case !rightIncomes(c) || !rightMatches(c):
		return api.ErrIncome
	}
	return api.OK
}

// rightClaims reports whether claims ascend, and are valid.
func rightClaims(l []api.Claim) bool {
	for i, x := range l {
		if !Claim(x) || i > 0 && l[i-1].ID >= x.ID {
			return false
		}
	}
	return true
}

// rightIncomes reports whether the incomes ascend, are valid, and may have what is loose.
func rightIncomes(c api.Cash) bool {
	if len(c.Loose) != len(c.Incomes) {
		return false
	}
	for i, x := range c.Incomes {
		if !validIncome(x) || !within(c.Loose[i], 0, x.Amount) {
			return false
		}
		if i > 0 && (c.Incomes[i-1].Number >= x.Number || c.Incomes[i-1].Day > x.Day) {
			return false
		}
	}
	return true
}

// rightMatches reports whether each match is of an income and a claim of one payer, and all of them are what claims and incomes say.
func rightMatches(c api.Cash) bool {
	var received, given []int
	for _, x := range c.Claims {
		received = append(received, x.Amount-x.Open)
	}
	for i, x := range c.Incomes {
		given = append(given, x.Amount-c.Loose[i])
	}
	for _, m := range c.Matches {
		claim := slices.IndexFunc(c.Claims, func(x api.Claim) bool { return x.ID == m.Claim })
		income := slices.IndexFunc(c.Incomes, func(x api.Income) bool { return x.Number == m.Income })
		if claim < 0 || income < 0 || c.Claims[claim].Payer != c.Incomes[income].Payer {
			return false
		}
		// Taken off one by one, amounts of any size can not wrap.
		if m.Amount < 1 || m.Amount > received[claim] || m.Amount > given[income] {
			return false
		}
		received[claim] -= m.Amount
		given[income] -= m.Amount
	}
	// What is missing of an income was refunded, but a claim gets nothing from elsewhere.
	return !slices.ContainsFunc(received, func(n int) bool { return n > 0 })
}

// validIncome reports whether an income is valid.
func validIncome(x api.Income) bool {
	return isNumber(x.Number) && isNumber(x.Payer) && within(x.Day, 0, api.MaxDay) && isAmount(x.Amount) && within(x.Claim, 0, api.MaxNumber)
}

func isNumber(n int) bool { return within(n, 1, api.MaxNumber) }

func isAmount(n int) bool { return n > 0 && money.Valid(n) }

// within reports whether n is from least to most.
func within(n, least, most int) bool { return least <= n && n <= most }
