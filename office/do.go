package office

import (
	"slices"

	"treasury/api"
	"treasury/commitment"
	"treasury/rights"
)

// Do returns an office after an operation.
func Do(o api.Office, op api.Op) (api.Office, api.Errno) {
	if !Valid(o) {
		return api.Office{}, api.ErrInvalid
	}
	switch op.Kind {
	case api.OpReserve:
		return reserve(o, op)
	case api.OpCommit:
		return booked(o)(commitment.Commit(o.Book, op.Of, op.Day, op.Amount, op.Payee, op.Due))
	case api.OpVerify:
		return booked(o)(commitment.Verify(o.Book, op.Of, op.Day, op.Amount))
	case api.OpOrder:
		return booked(o)(commitment.Order(o.Book, op.Of, op.Day))
	case api.OpRelease:
		return booked(o)(commitment.Release(o.Book, op.Of, op.Amount))
	case api.OpDrop:
		return booked(o)(commitment.Drop(o.Book, op.Of, op.Amount))
	case api.OpReturned:
		return booked(o)(commitment.Back(o.Book, op.Of))
	case api.OpReturn:
		return giveBack(o, op)
	case api.OpHear:
		return hear(o, op)
	}
	return api.Office{}, api.ErrInvalid
}

// reserve sets an amount aside, if the rights of the office have so much unused.
func reserve(o api.Office, op api.Op) (api.Office, api.Errno) {
	b, e := commitment.Reserve(o.Book, op.Code, op.Year, op.Day, op.Amount)
	if e == api.OK && op.Amount > Unused(o, op.Code, op.Year) {
		return api.Office{}, api.ErrFunds
	}
	return booked(o)(b, e)
}

// giveBack returns a part of a right to the treasury.
func giveBack(o api.Office, op api.Op) (api.Office, api.Errno) {
	i := index(o, op.Code, op.Year)
	if i < 0 {
		return api.Office{}, api.ErrUnknown
	}
	r, e := rights.Return(o.Rights[i], commitment.Used(o.Book, op.Code, op.Year), op.Amount)
	if e != api.OK {
		return api.Office{}, e
	}
	return withRight(o, i, r), api.OK
}

// hear learns of a message of the treasury, also of a right that is new to the office.
func hear(o api.Office, op api.Op) (api.Office, api.Errno) {
	// A right is put where a pot would be, for the same reasons and with the same errors.
	t, e := rights.Set(places(o), op.Code, op.Year, 0)
	if e != api.OK {
		return api.Office{}, e
	}
	m := api.Message{To: o.Number, Code: op.Code, Year: op.Year, Granted: op.Granted, Asked: op.AskedBack}
	r, e := rights.Learn(Right(o, op.Code, op.Year), m)
	if e != api.OK {
		return api.Office{}, e
	}
	i := slices.IndexFunc(t.Pots, func(p api.Pot) bool { return p.Code == op.Code && p.Year == op.Year })
	if len(t.Pots) > len(o.Rights) {
		o.Rights = slices.Insert(slices.Clone(o.Rights), i, r)
	}
	return withRight(o, i, r), api.OK
}

// booked returns what makes an office with another book out of what the book was asked to do.
func booked(o api.Office) func(api.Book, api.Errno) (api.Office, api.Errno) {
	return func(b api.Book, e api.Errno) (api.Office, api.Errno) {
		if e != api.OK {
			return api.Office{}, e
		}
		return api.Office{Number: o.Number, Rights: slices.Clone(o.Rights), Book: b}, api.OK
	}
}

// withRight returns an office with another right at a place, in memory of its own.
func withRight(o api.Office, i int, r api.Right) api.Office {
	b := api.Book{
		Reservations:  slices.Clone(o.Book.Reservations),
		Commitments:   slices.Clone(o.Book.Commitments),
		Verifications: slices.Clone(o.Book.Verifications),
		Orders:        slices.Clone(o.Book.Orders),
	}
	next := api.Office{Number: o.Number, Rights: slices.Clone(o.Rights), Book: b}
	next.Rights[i] = r
	return next
}
