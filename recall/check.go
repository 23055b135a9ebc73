package recall

import (
	"slices"

	"treasury/account"
	"treasury/api"
	"treasury/batch"
)

// way is how an entry moves money.
type way struct{ from, to, amount int }

// Check returns the first error that applies to a desk.
func Check(d api.Desk) api.Errno {
	if e := account.Check(d.Account); e != api.OK {
		return e
	}
	if e := batch.Check(d.Queue); e != api.OK {
		return e
	}
	if !right(d) {
		return api.ErrDesk
	}
	return api.OK
}

// right reports whether the items of a desk are what its account and its queue say.
func right(d api.Desk) bool {
	// What is known ascends, and so do the items.
	if !slices.Equal(warrants(d.Items), d.Queue.Known) {
		return false
	}
	queued := 0
	for _, x := range d.Items {
		if !valid(x) || !hasSub(d.Account, x.Payment.Sub) || sent(d.Queue, x.Payment.Warrant) != x.Attempts || !moved(d.Account, x) {
			return false
		}
		if x.State == api.StateQueued {
			queued++
			if !slices.Contains(d.Queue.Waiting, x.Payment) {
				return false
			}
		}
	}
	// No warrant waits twice, so that as many as are queued can only be those.
	return queued == len(d.Queue.Waiting)
}

// valid reports whether an item has a valid payment, a state, and attempts that fit with it.
func valid(x api.Item) bool {
	least, most := 1, api.MaxAttempts
	switch x.State {
	case api.StateQueued:
		least, most = 0, api.MaxAttempts-1
	case api.StateRecalled:
		least = 0
	case api.StateSent, api.StateSettled, api.StateReturned:
	default:
		return false
	}
	return batch.Payment(x.Payment) && least <= x.Attempts && x.Attempts <= most
}

// sent returns in how many batches a warrant was.
func sent(q api.Queue, warrant int) int {
	n := 0
	for _, b := range q.Batches {
		if slices.ContainsFunc(b.Payments, func(p api.Payment) bool { return p.Warrant == warrant }) {
			n++
		}
	}
	return n
}

// moved reports whether the account has moved the money of an item as its attempts and its state say.
func moved(a api.Account, x api.Item) bool {
	p := x.Payment
	away, back := way{p.Sub, outside, p.Amount}, way{outside, p.Sub, p.Amount}
	gone, came := 0, 0
	for _, e := range a.Entries {
		if e.Ref != p.Warrant {
			continue
		}
		switch w := (way{e.From, e.To, e.Amount}); {
		case w == away:
			gone++
		case w == back:
			came++
		default:
			return false
		}
	}
	if x.State == api.StateSent || x.State == api.StateSettled {
		came++
	}
	return gone == x.Attempts && came == x.Attempts
}

// hasSub reports whether an account has a sub-account.
func hasSub(a api.Account, id int) bool {
	return slices.ContainsFunc(a.Subs, func(s api.Sub) bool { return s.ID == id })
}

// warrants returns the warrants of items, in their order.
func warrants(l []api.Item) []int {
	var all []int
	for _, x := range l {
		all = append(all, x.Payment.Warrant)
	}
	return all
}
