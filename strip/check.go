package strip

import (
	"cmp"
	"slices"

	"treasury/api"
	"treasury/coupon"
	"treasury/register"
)

const maxHolder = 1000

// Kinds of strips, in their order.
const (
	couponKind = iota
	principalKind
)

// Check returns the first error that applies to a vault.
func Check(v api.Vault) api.Errno {
	if e := register.Check(v.Register); e != api.OK {
		return e
	}
	switch {
	case len(v.Strips) > api.MaxStrips:
		return api.ErrLimit
	case !rightStrips(v) || slices.ContainsFunc(v.Register.Securities, func(s api.Security) bool { return !whole(v, s) }):
		return api.ErrStrip
	}
	return api.OK
}

// rightStrips reports whether the strips of a vault ascend, and each of them can be one.
func rightStrips(v api.Vault) bool {
	for i, x := range v.Strips {
		s, found := register.Find(v.Register, x.Security)
		if !found || !isHolder(x.Holder) || x.Amount <= 0 || x.Amount > api.MaxAmount || x.Amount%s.Unit != 0 {
			return false
		}
		if !slices.Contains(coupon.Days(s), x.Day) || x.Principal && x.Day != s.Maturity {
			return false
		}
		if i > 0 && compare(v.Strips[i-1], x) >= 0 {
			return false
		}
	}
	return true
}

// whole reports whether the strips of a security are together what is stripped of it: its principal, and its coupons from a day on.
func whole(v api.Vault, s api.Security) bool {
	stripped := register.Held(v.Register, s.ID, api.Stripped)
	if stripped == 0 {
		return !slices.ContainsFunc(v.Strips, func(x api.Strip) bool { return x.Security == s.ID })
	}
	begun := false
	for _, day := range coupon.Days(s) {
		sum := total(v, api.Strip{Security: s.ID, Day: day})
		if sum != stripped && (sum > 0 || begun) {
			return false
		}
		begun = begun || sum > 0
	}
	return begun && total(v, api.Strip{Security: s.ID, Day: s.Maturity, Principal: true}) == stripped
}

// total returns what all holders have of a strip.
func total(v api.Vault, x api.Strip) int {
	sum := 0
	for _, y := range v.Strips {
		if y.Security == x.Security && y.Day == x.Day && y.Principal == x.Principal {
			sum += y.Amount
		}
	}
	return sum
}

// held returns what the holder of a strip has of it.
func held(v api.Vault, x api.Strip) int {
	at, found := slices.BinarySearchFunc(v.Strips, x, compare)
	if !found {
		return 0
	}
	return v.Strips[at].Amount
}

// kind returns the number of the kind of a strip.
func kind(x api.Strip) int {
	if x.Principal {
		return principalKind
	}
	return couponKind
}

// isHolder reports whether a number is that of a holder who can have strips.
func isHolder(n int) bool { return 1 <= n && n <= maxHolder && n != api.Stripped }

func compare(a, b api.Strip) int {
	return cmp.Or(cmp.Compare(a.Security, b.Security), cmp.Compare(a.Day, b.Day), cmp.Compare(kind(a), kind(b)), cmp.Compare(a.Holder, b.Holder))
}

func compareDue(a, b api.Due) int {
	return cmp.Or(cmp.Compare(a.Security, b.Security), cmp.Compare(a.Holder, b.Holder), cmp.Compare(a.Kind, b.Kind))
}
