package court

import (
	"slices"

	"treasury/account"
	"treasury/api"
	"treasury/ledger"
	"treasury/recall"
	"treasury/receipt"
	"treasury/register"
)

const (
	outside = 0
	mainSub = 1
	entity  = 1 // whose books the ledger has
)

// clerk carries out deeds on a state in memory of its own. With an error, the state is of no use any more.
type clerk struct{ api.State }

// do carries out a deed, and posts what it moves from and to outside to the ledger.
func (c *clerk) do(d api.Deed) api.Errno {
	before := len(c.Desk.Account.Entries)
	if e := c.act(d); e != api.OK {
		return e
	}
	return c.book(before)
}

// act carries out a deed, but for the ledger.
func (c *clerk) act(d api.Deed) (e api.Errno) {
	switch d.Kind {
	case api.DeedReceive:
		return c.receive(d)
	case api.DeedOrder:
		c.Desk, e = recall.Order(c.Desk, api.Payment{Warrant: d.Ref, Payee: d.Who, Amount: d.Amount, Due: d.Due, Sub: d.Sub})
	case api.DeedSend:
		c.Desk, _, e = recall.Send(c.Desk, d.Day)
	case api.DeedSettle:
		c.Desk, e = recall.Settle(c.Desk, d.Ref)
	case api.DeedReturn:
		c.Desk, e = recall.Return(c.Desk, d.Ref, d.Day)
	case api.DeedRecall:
		c.Desk, e = recall.Recall(c.Desk, d.Ref)
	case api.DeedIssue:
		c.Register, e = register.Issue(c.Register, d.Day, d.Ref, d.Who, d.Amount)
		return c.enter(e, d, outside, mainSub)
	case api.DeedRedeem:
		c.Register, e = register.Redeem(c.Register, d.Day, d.Ref, d.Who, d.Amount)
		return c.enter(e, d, mainSub, outside)
	case api.DeedMove:
		if d.Sub == outside || d.Who == outside {
			return api.ErrSub
		}
		return c.enter(api.OK, d, d.Sub, d.Who)
	default:
		return api.ErrScript
	}
	return e
}

// receive takes an income in.
func (c *clerk) receive(d api.Deed) (e api.Errno) {
	// What comes into the main sub-account would look as if it were borrowed.
	if d.Sub == mainSub {
		return api.ErrSub
	}
	x := api.Income{Number: 1, Day: d.Day, Payer: d.Who, Amount: d.Amount, Claim: d.Ref}
	if n := len(c.Cash.Incomes); n > 0 {
		x.Number = c.Cash.Incomes[n-1].Number + 1
	}
	c.Cash, _, e = receipt.Take(c.Cash, x)
	return c.enter(e, d, outside, d.Sub)
}

// enter enters the amount of a deed into the account, unless the deed has an error already.
func (c *clerk) enter(before api.Errno, d api.Deed, from, to int) (e api.Errno) {
	if before != api.OK {
		return before
	}
	a := c.Desk.Account
	c.Desk.Account, e = account.Post(a, account.Next(a, d.Day, from, to, d.Amount, 0))
	return e
}

// book posts the entries from and to outside, behind the first so many entries, to the ledger.
func (c *clerk) book(entries int) (e api.Errno) {
	a := c.Desk.Account
	booked := len(chosen(a.Entries[:entries], external))
	for _, p := range postings(a)[booked:] {
		p.Number = len(c.Ledger.Postings) + 1
		if c.Ledger, e = ledger.Post(c.Ledger, p); e != api.OK {
			return e
		}
	}
	return api.OK
}

// postings returns what the ledger has to say of an account that is right.
func postings(a api.Account) []api.Posting {
	l := ledger.Entries(a, entity, 1)
	for i, e := range chosen(a.Entries, external) {
		switch {
		case !ofSecurity(e):
		case e.From == outside:
			l[i].Credit = api.AccountDebt
		default:
			l[i].Debit = api.AccountDebt
		}
	}
	return l
}

// external reports whether an entry comes from outside, or goes there.
func external(e api.Entry) bool { return e.From == outside || e.To == outside }

// ofSecurity reports whether an entry is that of an issue or a redemption.
func ofSecurity(e api.Entry) bool {
	return external(e) && e.Ref == 0 && (e.From == mainSub || e.To == mainSub)
}

// ofIncome reports whether an entry is that of an income.
func ofIncome(e api.Entry) bool { return e.From == outside && e.Ref == 0 && e.To != mainSub }

// chosen returns the elements of a list that are wanted.
func chosen[T any](l []T, wanted func(T) bool) []T {
	return slices.DeleteFunc(slices.Clone(l), func(x T) bool { return !wanted(x) })
}

// copyOf returns a state in memory of its own.
func copyOf(s api.State) api.State {
	a, q, c, r := s.Desk.Account, s.Desk.Queue, s.Cash, s.Register
	next := api.State{
		Desk: api.Desk{
			Account: api.Account{Credit: a.Credit, Subs: slices.Clone(a.Subs), Entries: slices.Clone(a.Entries)},
			Queue:   api.Queue{Waiting: slices.Clone(q.Waiting), Known: slices.Clone(q.Known)},
			Items:   slices.Clone(s.Desk.Items),
		},
		Cash:     api.Cash{Claims: slices.Clone(c.Claims), Incomes: slices.Clone(c.Incomes), Matches: slices.Clone(c.Matches), Loose: slices.Clone(c.Loose)},
		Register: api.Register{Securities: slices.Clone(r.Securities), Holdings: slices.Clone(r.Holdings), Moves: slices.Clone(r.Moves)},
		Ledger:   api.Ledger{Postings: slices.Clone(s.Ledger.Postings)},
	}
	for _, b := range q.Batches {
		b.Payments = slices.Clone(b.Payments)
		next.Desk.Queue.Batches = append(next.Desk.Queue.Batches, b)
	}
	return next
}
