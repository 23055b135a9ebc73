package court

import (
	"slices"

	"treasury/account"
	"treasury/api"
	"treasury/ledger"
	"treasury/recall"
	"treasury/receipt"
	"treasury/register"
)

// Layers that can have findings.
const (
	accountLayer  = 23
	recallLayer   = 26
	receiptLayer  = 27
	registerLayer = 33
	ledgerLayer   = 40
)

// flow is money that comes in from outside, or goes there, on a day.
type flow struct {
	day, amount int
	in          bool
}

// Audit returns what is wrong with a state.
func Audit(s api.State) []api.Finding {
	if findings := checks(s); len(findings) > 0 {
		return findings
	}
	return slices.Concat(incomes(s), moves(s), books(s))
}

// checks returns a finding for each layer whose data are not right.
func checks(s api.State) []api.Finding {
	all := []struct {
		layer int
		e     api.Errno
	}{
		{accountLayer, account.Check(s.Desk.Account)},
		{recallLayer, recall.Check(s.Desk)},
		{receiptLayer, receipt.Check(s.Cash)},
		{registerLayer, register.Check(s.Register)},
		{ledgerLayer, ledger.Check(s.Ledger)},
	}
	var findings []api.Finding
	for _, x := range all {
		if x.e != api.OK {
			findings = append(findings, api.Finding{Layer: x.layer})
		}
	}
	return findings
}

// incomes finds the first income that does not fit its entry.
func incomes(s api.State) []api.Finding {
	var known []flow
	for _, x := range s.Cash.Incomes {
		known = append(known, flow{x.Day, x.Amount, true})
	}
	i, differ := difference(known, flows(s.Desk.Account, ofIncome))
	return found(differ, receiptLayer, i+1)
}

// moves finds the first issue or redemption that does not fit its entry.
func moves(s api.State) []api.Finding {
	var known []flow
	var numbers []int
	for _, m := range s.Register.Moves {
		if m.Kind != api.MoveTransfer {
			known = append(known, flow{m.Day, m.Amount, m.Kind == api.MoveIssue})
			numbers = append(numbers, m.Number)
		}
	}
	// An entry that is too much stands behind all moves.
	numbers = append(numbers, len(s.Register.Moves)+1)
	i, differ := difference(known, flows(s.Desk.Account, ofSecurity))
	return found(differ, registerLayer, numbers[i])
}

// books finds the first posting that is not the one of its entry.
func books(s api.State) []api.Finding {
	i, differ := difference(s.Ledger.Postings, postings(s.Desk.Account))
	return found(differ, ledgerLayer, i+1)
}

// found returns a finding if there is one.
func found(is bool, layer, number int) []api.Finding {
	if !is {
		return nil
	}
	return []api.Finding{{Layer: layer, Number: number}}
}

// flows returns what the entries of an account that are wanted have moved.
func flows(a api.Account, wanted func(api.Entry) bool) []flow {
	var l []flow
	for _, e := range chosen(a.Entries, wanted) {
		l = append(l, flow{e.Day, e.Amount, e.From == outside})
	}
	return l
}

// difference returns the first place at which two lists differ, and whether they do.
func difference[T comparable](a, b []T) (int, bool) {
	n := min(len(a), len(b))
	for i := range n {
		if a[i] != b[i] {
			return i, true
		}
	}
	return n, len(a) != len(b)
}
