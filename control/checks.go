package control

import (
	"slices"

	"treasury/api"
	"treasury/calendar"
	"treasury/commitment"
	"treasury/office"
	"treasury/warrant"
)

// hearing is what a control knows: the office is that on its disk, and paid are the warrants that have not come back.
type hearing struct {
	keys    []uint64
	warrant api.Warrant
	office  api.Office
	paid    []api.Warrant
	pot     api.Pot
	day     int
}

// check is one check, and how it is decided for a warrant that is plain.
type check struct {
	kind   int
	decide func() api.Errno
}

// checks returns all checks in their order.
func (h hearing) checks() []check {
	return []check{
		{api.CheckForm, h.form},
		{api.CheckSigned, h.signed},
		{api.CheckBasis, h.basis},
		{api.CheckAmount, h.amount},
		{api.CheckTwice, h.twice},
		{api.CheckYear, h.year},
		{api.CheckDue, h.due},
		{api.CheckFunds, h.funds},
	}
}

func (h hearing) form() api.Errno {
	if !warrant.Plain(h.warrant) {
		return api.ErrInvalid
	}
	return api.OK
}

func (h hearing) signed() api.Errno { return warrant.Check(h.keys, h.warrant) }

// basis decides whether the office has the order, and the chain behind it.
func (h hearing) basis() api.Errno {
	if !office.Valid(h.office) {
		return api.ErrInvalid
	}
	b, w := h.office.Book, h.warrant
	if _, found := h.order(); h.office.Number != w.Office || !found {
		return api.ErrBasis
	}
	v := b.Verifications[w.Verification-1]
	if v.Commitment != w.Commitment || b.Commitments[v.Commitment-1].Reservation != w.Reservation {
		return api.ErrBasis
	}
	return api.OK
}

// amount decides whether the warrant says what its basis says.
func (h hearing) amount() api.Errno {
	if h.basis() != api.OK {
		return api.ErrBasis
	}
	b, w := h.office.Book, h.warrant
	o, _ := h.order()
	c, r := b.Commitments[w.Commitment-1], b.Reservations[w.Reservation-1]
	if w.Amount != b.Verifications[w.Verification-1].Amount || w.Payee != c.Payee || w.Due != c.Due || w.Code != r.Code || w.Year != r.Year || w.Day != o.Day {
		return api.ErrFunds
	}
	return api.OK
}

// twice decides whether the warrant, or its verification, is paid already.
func (h hearing) twice() api.Errno {
	sameNumber := func(w api.Warrant) bool { return w.Number == h.warrant.Number }
	// Another attempt for the same verification would pay it once more.
	sameBasis := func(w api.Warrant) bool {
		return w.Office == h.warrant.Office && w.Verification == h.warrant.Verification
	}
	switch {
	case slices.ContainsFunc(h.paid, sameNumber):
		return api.ErrDuplicate
	case slices.ContainsFunc(h.paid, sameBasis):
		return api.ErrRepeated
	}
	return api.OK
}

// year decides whether the warrant can still be paid.
func (h hearing) year() api.Errno {
	if !calendar.Valid(h.day) || h.day < h.warrant.Day || calendar.Year(h.day) > h.warrant.Year+1 {
		return api.ErrYear
	}
	return api.OK
}

// due decides whether the warrant is due.
func (h hearing) due() api.Errno {
	// A plain warrant is due early enough for a business day behind it.
	if first, _ := calendar.Next(h.warrant.Due); h.day < first {
		return api.ErrBlocked
	}
	return api.OK
}

// funds decides whether what the office has used is covered by what is out.
func (h hearing) funds() api.Errno {
	p, w := h.pot, h.warrant
	if p.Code != w.Code || p.Year != w.Year || w.Office > min(len(p.Granted), len(p.Heard)) {
		return api.ErrUnknown
	}
	if commitment.Used(h.office.Book, w.Code, w.Year) > p.Granted[w.Office-1]-p.Heard[w.Office-1] {
		return api.ErrFunds
	}
	return api.OK
}

// order returns the order of the warrant, and whether there is one that did not come back.
func (h hearing) order() (api.Order, bool) {
	orders := h.office.Book.Orders
	i := slices.IndexFunc(orders, func(o api.Order) bool {
		return o.Verification == h.warrant.Verification && o.Attempt == h.warrant.Attempt && !o.Back
	})
	if i < 0 {
		return api.Order{}, false
	}
	return orders[i], true
}
