package court

import (
	"fmt"
	"math"
	"math/rand"
	"slices"
	"testing"

	"treasury/account"
	"treasury/api"
	"treasury/ledger"
	"treasury/recall"
	"treasury/receipt"
	"treasury/register"
)

// The limits are written out here as the document has them, so that a wrong one shows.
const (
	mostAmount     = 1000000000000
	mostDeeds      = 200
	mostSecurities = 20
	mostPostings   = 400
	lastDay        = 36000
)

// bond is a security from the day 0 to the day 360.
func bond(id int) api.Security {
	return api.Security{ID: id, Unit: 10, Maturity: 360, Rate: 5000, Every: 6}
}

// start is a state with the sub-accounts 1, 2 and 3, and the securities 4 and 5.
func start(t *testing.T) api.State {
	t.Helper()
	s, e := Start([]int{1, 2, 3}, 50, []api.Security{bond(4), bond(5)})
	if e != api.OK || !Clean(s) {
		t.Fatalf("error %d, %v", e, Audit(s))
	}
	return s
}

func receive(day, sub, payer, amount, claim int) api.Deed {
	return api.Deed{Kind: 1, Day: day, Sub: sub, Who: payer, Amount: amount, Ref: claim}
}

func order(warrant, sub, payee, amount, due int) api.Deed {
	return api.Deed{Kind: 2, Ref: warrant, Sub: sub, Who: payee, Amount: amount, Due: due}
}

func send(day int) api.Deed { return api.Deed{Kind: 3, Day: day} }

func settle(warrant int) api.Deed { return api.Deed{Kind: 4, Ref: warrant} }

func giveBack(day, warrant int) api.Deed { return api.Deed{Kind: 5, Day: day, Ref: warrant} }

func take(warrant int) api.Deed { return api.Deed{Kind: 6, Ref: warrant} }

func issue(day, id, holder, amount int) api.Deed {
	return api.Deed{Kind: 7, Day: day, Ref: id, Who: holder, Amount: amount}
}

func redeem(day, id, holder, amount int) api.Deed {
	return api.Deed{Kind: 8, Day: day, Ref: id, Who: holder, Amount: amount}
}

func move(day, from, to, amount int) api.Deed {
	return api.Deed{Kind: 9, Day: day, Sub: from, Who: to, Amount: amount}
}

// run carries out deeds, all of which must be possible.
func run(t *testing.T, s api.State, l ...api.Deed) api.State {
	t.Helper()
	next, n, e := Run(s, l)
	if e != api.OK || n != len(l) || !Clean(next) {
		t.Fatalf("%d deeds, error %d, %v", n, e, Audit(next))
	}
	return next
}

// script is all kinds of deeds.
func script() []api.Deed {
	return []api.Deed{
		receive(3, 2, 7, 100, 0), issue(3, 4, 8, 500), order(9, 2, 6, 60, 5), order(11, 1, 6, 70, 4), take(11), send(7), giveBack(8, 9), move(8, 1, 3, 20), order(12, 1, 5, 200, 8), send(8), settle(12),
		issue(9, 5, 8, 40), redeem(10, 4, 8, 110), receive(11, 3, 7, 5, 1),
	}
}

func same(a, b api.State) bool { return fmt.Sprint(a) == fmt.Sprint(b) }

// P45.1

func TestStart(t *testing.T) {
	s := start(t)
	a, _ := account.Open([]int{1, 2, 3}, 50)
	want := api.State{Desk: api.Desk{Account: a}, Register: api.Register{Securities: []api.Security{bond(4), bond(5)}}}
	if !same(s, want) {
		t.Errorf("%v, not %v", s, want)
	}
	turned, e := Start([]int{1}, 0, []api.Security{bond(5), bond(4)})
	if e != api.OK || turned.Register.Securities[0].ID != 4 {
		t.Errorf("%v, error %d", turned, e)
	}
	var many []api.Security
	for i := range mostSecurities + 1 {
		many = append(many, bond(i+1))
	}
	for _, c := range []struct {
		subs   []int
		credit int
		l      []api.Security
		want   api.Errno
	}{
		{nil, -1, []api.Security{{}}, api.ErrRange}, {[]int{1}, mostAmount + 1, nil, api.ErrRange}, {make([]int, 21), 0, []api.Security{{}}, api.ErrLimit}, {[]int{2}, 0, []api.Security{{}}, api.ErrSub}, {nil, 0, nil, api.ErrSub},
		{[]int{1}, 0, []api.Security{bond(4), {}}, api.ErrSecurity}, {[]int{1}, 0, []api.Security{bond(4), bond(4)}, api.ErrSecurity}, {[]int{1}, 0, many, api.ErrLimit}, {[]int{1}, 0, many[1:], api.OK},
	} {
		s, e := Start(c.subs, c.credit, c.l)
		if e != c.want || e != api.OK && !same(s, api.State{}) {
			t.Errorf("%v, %d, %v: %v, error %d, not %d", c.subs, c.credit, c.l, s, e, c.want)
		}
	}
}

// P45.2

func TestScript(t *testing.T) {
	s := run(t, start(t), script()...)
	entries := []api.Entry{
		{Number: 1, Day: 3, To: 2, Amount: 100}, {Number: 2, Day: 3, To: 1, Amount: 500}, {Number: 3, Day: 7, From: 2, Amount: 60, Ref: 9}, {Number: 4, Day: 8, To: 2, Amount: 60, Ref: 9}, {Number: 5, Day: 8, From: 1, To: 3, Amount: 20},
		{Number: 6, Day: 8, From: 1, Amount: 200, Ref: 12}, {Number: 7, Day: 9, To: 1, Amount: 40}, {Number: 8, Day: 10, From: 1, Amount: 110}, {Number: 9, Day: 11, To: 3, Amount: 5},
	}
	if !slices.Equal(s.Desk.Account.Entries, entries) {
		t.Errorf("%v, not %v", s.Desk.Account.Entries, entries)
	}
	var postings []api.Posting
	for _, p := range [][5]int{{3, 110, 410, 100, 0}, {3, 110, 230, 500, 0}, {7, 510, 110, 60, 9}, {8, 110, 410, 60, 9}, {8, 510, 110, 200, 12}, {9, 110, 230, 40, 0}, {10, 230, 110, 110, 0}, {11, 110, 410, 5, 0}} {
		postings = append(postings, api.Posting{Number: len(postings) + 1, Day: p[0], Entity: 1, Debit: p[1], Credit: p[2], Amount: p[3], Ref: p[4]})
	}
	if !slices.Equal(s.Ledger.Postings, postings) {
		t.Errorf("%v, not %v", s.Ledger.Postings, postings)
	}
	incomes := []api.Income{{Number: 1, Day: 3, Payer: 7, Amount: 100}, {Number: 2, Day: 11, Payer: 7, Amount: 5, Claim: 1}}
	if !slices.Equal(s.Cash.Incomes, incomes) || !slices.Equal(s.Cash.Loose, []int{100, 5}) {
		t.Errorf("%v, not %v", s.Cash, incomes)
	}
	holdings := []api.Holding{{Security: 4, Holder: 8, Amount: 390}, {Security: 5, Holder: 8, Amount: 40}}
	if !slices.Equal(s.Register.Holdings, holdings) || len(s.Register.Moves) != 3 {
		t.Errorf("%v, not %v", s.Register, holdings)
	}
	for warrant, want := range map[int]int{9: api.StateReturned, 11: api.StateRecalled, 12: api.StateSettled} {
		if got := recall.State(s.Desk, warrant); got != want {
			t.Errorf("%d: state %d, not %d", warrant, got, want)
		}
	}
	if payment := s.Desk.Items[2].Payment; payment != (api.Payment{Warrant: 12, Payee: 5, Amount: 200, Due: 8, Sub: 1}) {
		t.Errorf("%v", payment)
	}
	in, out, debt := Sums(s)
	if in != 100+500+60+40+5 || out != 60+200+110 || debt != 430 || account.Total(s.Desk.Account) != in-out {
		t.Errorf("%d, %d, %d", in, out, debt)
	}
	// The next number is that of the ledger, also if it is not that of the account.
	for _, n := range []int{7, 9} {
		x := copied(s)
		x.Ledger.Postings = slices.Concat(x.Ledger.Postings, x.Ledger.Postings[7:])[:n]
		x.Ledger.Postings[n-1].Number = n
		next, e := Do(x, receive(11, 3, 7, 5, 1))
		want := api.Posting{Number: n + 1, Day: 11, Entity: 1, Debit: 110, Credit: 410, Amount: 5}
		if e != api.OK || len(next.Ledger.Postings) != n+1 || next.Ledger.Postings[n] != want {
			t.Errorf("%v, error %d", next.Ledger, e)
		}
	}
	// Several payments of a batch are several postings.
	several := run(t, start(t), receive(3, 2, 7, 100, 0), order(1, 2, 5, 10, 7), order(2, 2, 5, 20, 7), send(7))
	if len(several.Ledger.Postings) != 3 || several.Ledger.Postings[2].Amount != 20 || several.Ledger.Postings[2].Ref != 2 {
		t.Errorf("%v", several.Ledger)
	}
}

func TestErrorsOfDo(t *testing.T) {
	s := run(t, start(t), script()...)
	s = run(t, s, order(13, 2, 5, 1000, 8), order(14, 3, 5, 2, 8))
	full := run(t, s)
	for len(full.Ledger.Postings) < mostPostings {
		p := full.Ledger.Postings[7]
		p.Number = len(full.Ledger.Postings) + 1
		full.Ledger.Postings = append(full.Ledger.Postings, p)
	}
	broken := run(t, s)
	broken.Desk.Account.Subs[0].Balance++
	cash := run(t, s)
	cash.Cash.Loose[0] = 0
	cash.Cash.Claims = []api.Claim{{}}
	reg := run(t, s)
	reg.Register.Holdings[0].Amount++
	books := run(t, s)
	books.Ledger.Postings[0].Number = 2
	for _, c := range []struct {
		name string
		s    api.State
		d    api.Deed
		want api.Errno
	}{
		{"no kind", s, api.Deed{}, api.ErrScript}, {"the kind 10", s, api.Deed{Kind: 10}, api.ErrScript}, {"a kind below 0", api.State{}, api.Deed{Kind: math.MinInt}, api.ErrScript},
		{"receive into the main one", s, receive(-1, 1, 0, 0, -1), api.ErrSub}, {"receive nothing", s, receive(11, 0, 7, 0, 0), api.ErrIncome}, {"receive before", s, receive(10, 0, 7, 5, 0), api.ErrOrder}, {"receive into 0", s, receive(11, 0, 7, 5, 0), api.ErrSub}, {"receive into 4", s, receive(11, 4, 7, 5, 0), api.ErrSub}, {"receive with a broken account", broken, receive(11, 2, 7, 5, 0), api.ErrAccount}, {"receive with broken cash", cash, receive(11, 2, 7, 5, 0), api.ErrClaim}, {"receive with a broken ledger", books, receive(11, 2, 7, 5, 0), api.ErrLedger}, {"receive with a full ledger", full, receive(11, 2, 7, 5, 0), api.ErrLimit}, {"receive with a broken register", reg, receive(11, 2, 7, 5, 0), api.OK},
		{"order a known one", s, order(9, 2, 5, 10, 9), api.ErrKnown}, {"order nothing", s, order(20, 2, 5, 0, 9), api.ErrPayment}, {"order out of 4", s, order(20, 4, 5, 10, 9), api.ErrSub}, {"order with a broken account", broken, order(20, 2, 5, 10, 9), api.ErrAccount}, {"order with a broken ledger", books, order(20, 2, 5, 10, 9), api.OK},
		{"send on a holiday", s, send(12), api.ErrHoliday}, {"send before", s, send(9), api.ErrOrder}, {"send nothing", run(t, start(t)), send(7), api.ErrNone}, {"send with a broken account", broken, send(14), api.ErrAccount}, {"send with a full ledger", full, send(14), api.ErrLimit}, {"send with a broken ledger", books, send(14), api.ErrLedger}, {"send", s, send(14), api.OK},
		{"settle an unknown one", s, settle(20), api.ErrUnknown}, {"settle a settled one", s, settle(12), api.ErrStage}, {"settle with a broken account", broken, settle(12), api.ErrAccount},
		{"return an unknown one", s, giveBack(11, 20), api.ErrUnknown}, {"return a settled one", s, giveBack(11, 12), api.ErrStage}, {"return before", run(t, s, send(14)), giveBack(13, 14), api.ErrOrder}, {"return with a full ledger", fill(run(t, s, send(14))), giveBack(14, 14), api.ErrLimit},
		{"recall an unknown one", s, take(20), api.ErrUnknown}, {"recall a settled one", s, take(12), api.ErrStage}, {"recall with a full ledger", full, take(13), api.OK},
		{"issue of no security", s, issue(11, 9, 8, 10), api.ErrSecurity}, {"issue of no unit", s, issue(11, 4, 8, 5), api.ErrUnit}, {"issue on an earlier day", s, issue(10, 4, 8, 10), api.ErrOrder}, {"issue with a broken register", reg, issue(11, 4, 8, 10), api.ErrRegister}, {"issue with a broken account", broken, issue(11, 4, 8, 10), api.ErrAccount}, {"issue with a full ledger", full, issue(11, 4, 8, 10), api.ErrLimit}, {"issue with broken cash", cash, issue(11, 4, 8, 10), api.OK},
		{"redeem what is not held", s, redeem(11, 4, 7, 10), api.ErrHolding}, {"redeem what is not there", s, redeem(11, 4, 8, 390), api.ErrBalance}, {"redeem on an earlier day", s, redeem(10, 4, 8, 10), api.ErrOrder}, {"redeem", s, redeem(11, 4, 8, 250), api.OK},
		{"move from outside", s, move(-1, 0, 2, 5), api.ErrSub}, {"move to outside", s, move(-1, 2, 0, 5), api.ErrSub}, {"move to itself", s, move(11, 2, 2, 5), api.ErrSub}, {"move to 4", s, move(11, 2, 4, 5), api.ErrSub}, {"move too much", s, move(11, 3, 2, 26), api.ErrBalance}, {"move nothing", s, move(11, 3, 2, 0), api.ErrRange}, {"move before", s, move(10, 3, 2, 5), api.ErrOrder}, {"move with a full ledger", full, move(11, 3, 2, 25), api.OK}, {"move with a broken account", broken, move(11, 3, 2, 25), api.ErrAccount},
	} {
		kept := fmt.Sprint(c.s)
		got, e := Do(c.s, c.d)
		if e != c.want || e != api.OK && !same(got, api.State{}) || kept != fmt.Sprint(c.s) {
			t.Errorf("%s: error %d, not %d", c.name, e, c.want)
		}
		if after, n, e := Run(c.s, []api.Deed{c.d}); e != c.want || e != api.OK && (n != 0 || !same(after, c.s)) || e == api.OK && (n != 1 || !same(after, got)) {
			t.Errorf("%s, Run: %d, error %d, not %d", c.name, n, e, c.want)
		}
	}
}

// fill fills the ledger of a state.
func fill(s api.State) api.State {
	for n := len(s.Ledger.Postings); n < mostPostings; n++ {
		p := s.Ledger.Postings[n-1]
		p.Number = n + 1
		s.Ledger.Postings = append(s.Ledger.Postings, p)
	}
	return s
}

// P45.3

func TestRun(t *testing.T) {
	s := start(t)
	l := script()
	for n := range len(l) + 1 {
		got, done, e := Run(s, append(slices.Clone(l[:n]), api.Deed{}, l[0]))
		want := run(t, s, l[:n]...)
		if e != api.ErrScript || done != n || !same(got, want) {
			t.Errorf("%d deeds: %d, error %d", n, done, e)
		}
	}
	got, n, e := Run(s, nil)
	if e != api.OK || n != 0 || !same(got, s) {
		t.Errorf("%d, error %d", n, e)
	}
	got.Register.Securities[0].Unit, got.Desk.Account.Subs[0].Balance = -1, -1
	if !same(s, start(t)) {
		t.Error("memory is shared")
	}
	var many []api.Deed
	for range mostDeeds {
		many = append(many, move(3, 2, 3, 1), move(3, 3, 2, 1))
	}
	rich := run(t, s, receive(3, 2, 7, 100, 0))
	if got, n, e := Run(rich, many[:mostDeeds]); e != api.OK || n != mostDeeds || len(got.Desk.Account.Entries) != mostDeeds+1 {
		t.Errorf("200: %d, error %d", n, e)
	}
	got, n, e = Run(rich, many[:mostDeeds+1])
	if e != api.ErrLimit || n != 0 || !same(got, rich) {
		t.Errorf("201: %d, error %d", n, e)
	}
	got.Desk.Account.Subs[0].Balance, got.Cash.Incomes[0].Amount, got.Ledger.Postings[0].Amount = -1, -1, -1
	if !Clean(rich) {
		t.Error("memory is shared")
	}
}

// rebooked returns an account with the entries of another one, some of them changed, and the balances that they make.
func rebooked(t *testing.T, a api.Account, change func(l []api.Entry) []api.Entry) api.Account {
	t.Helper()
	ids := []int{}
	for _, s := range a.Subs {
		ids = append(ids, s.ID)
	}
	next, _ := account.Open(ids, a.Credit)
	for _, x := range change(slices.Clone(a.Entries)) {
		var e api.Errno
		if next, e = account.Post(next, account.Next(next, x.Day, x.From, x.To, x.Amount, x.Ref)); e != api.OK {
			t.Fatalf("error %d", e)
		}
	}
	return next
}

func TestAudit(t *testing.T) {
	base := run(t, start(t), script()...)
	at := func(layer, number int) api.Finding { return api.Finding{Layer: layer, Number: number} }
	entries := func(change func(l []api.Entry) []api.Entry) func(s *api.State) {
		return func(s *api.State) { s.Desk.Account = rebooked(t, s.Desk.Account, change) }
	}
	for name, c := range map[string]struct {
		change func(s *api.State)
		want   []api.Finding
	}{
		"nothing":                {func(s *api.State) {}, nil},
		"a balance":              {func(s *api.State) { s.Desk.Account.Subs[1].Balance++ }, []api.Finding{at(23, 0), at(26, 0)}},
		"the credit":             {func(s *api.State) { s.Desk.Account.Credit = -1 }, []api.Finding{at(23, 0), at(26, 0)}},
		"an item":                {func(s *api.State) { s.Desk.Items[0].State = api.StateSent }, []api.Finding{at(26, 0)}},
		"the queue":              {func(s *api.State) { s.Desk.Queue.Known = nil }, []api.Finding{at(26, 0)}},
		"the cash":               {func(s *api.State) { s.Cash.Loose[0] = -1 }, []api.Finding{at(27, 0)}},
		"a holding":              {func(s *api.State) { s.Register.Holdings[0].Amount-- }, []api.Finding{at(33, 0)}},
		"a number of the ledger": {func(s *api.State) { s.Ledger.Postings[0].Number = 7 }, []api.Finding{at(40, 0)}},
		"all of it": {func(s *api.State) {
			s.Desk.Account.Subs[1].Balance++
			s.Cash.Loose[0] = -1
			s.Register.Holdings[0].Amount--
			s.Ledger.Postings[0].Number = 7
		}, []api.Finding{at(23, 0), at(26, 0), at(27, 0), at(33, 0), at(40, 0)}},
		"the checks ahead": {func(s *api.State) {
			s.Ledger.Postings[0].Number = 7
			s.Cash.Incomes[0].Amount++
			s.Cash.Incomes[0].Claim = 5
			s.Register.Moves = nil
			s.Register.Holdings = nil
		}, []api.Finding{at(40, 0)}},
		"the amount of a posting":    {func(s *api.State) { s.Ledger.Postings[2].Amount++ }, []api.Finding{at(40, 3)}},
		"the day of a posting":       {func(s *api.State) { s.Ledger.Postings[2].Day-- }, []api.Finding{at(40, 3)}},
		"the account of a posting":   {func(s *api.State) { s.Ledger.Postings[1].Credit = 410 }, []api.Finding{at(40, 2)}},
		"the account of a payment":   {func(s *api.State) { s.Ledger.Postings[2].Debit = 230 }, []api.Finding{at(40, 3)}},
		"the account of a return":    {func(s *api.State) { s.Ledger.Postings[6].Debit = 510 }, []api.Finding{at(40, 7)}},
		"the entity of a posting":    {func(s *api.State) { s.Ledger.Postings[7].Entity = 2 }, []api.Finding{at(40, 8)}},
		"the partner of a posting":   {func(s *api.State) { s.Ledger.Postings[7].Partner = 2 }, []api.Finding{at(40, 8)}},
		"the reference of a posting": {func(s *api.State) { s.Ledger.Postings[0].Ref = 2 }, []api.Finding{at(40, 1)}},
		"a posting missing":          {func(s *api.State) { s.Ledger.Postings = s.Ledger.Postings[:7] }, []api.Finding{at(40, 8)}},
		"all postings missing":       {func(s *api.State) { s.Ledger.Postings = nil }, []api.Finding{at(40, 1)}},
		"a posting too much": {func(s *api.State) {
			p := s.Ledger.Postings[7]
			p.Number = 9
			s.Ledger.Postings = append(s.Ledger.Postings, p)
		}, []api.Finding{at(40, 9)}},
		"two postings":             {func(s *api.State) { s.Ledger.Postings[2].Amount++; s.Ledger.Postings[4].Amount++ }, []api.Finding{at(40, 3)}},
		"the amount of an income":  {func(s *api.State) { s.Cash.Incomes[1].Amount++ }, []api.Finding{at(27, 2)}},
		"the day of an income":     {func(s *api.State) { s.Cash.Incomes[0].Day-- }, []api.Finding{at(27, 1)}},
		"another number":           {func(s *api.State) { s.Cash.Incomes[1].Number = 77 }, nil},
		"another payer":            {func(s *api.State) { s.Cash.Incomes[1].Payer = 8 }, nil},
		"an income missing":        {func(s *api.State) { s.Cash.Incomes, s.Cash.Loose = s.Cash.Incomes[:1], s.Cash.Loose[:1] }, []api.Finding{at(27, 2)}},
		"the first income missing": {func(s *api.State) { s.Cash.Incomes, s.Cash.Loose = s.Cash.Incomes[1:], s.Cash.Loose[1:] }, []api.Finding{at(27, 1)}},
		"all incomes missing":      {func(s *api.State) { s.Cash = api.Cash{} }, []api.Finding{at(27, 1)}},
		"an income too much": {func(s *api.State) {
			s.Cash.Incomes, s.Cash.Loose = append(s.Cash.Incomes, api.Income{Number: 3, Day: 11, Payer: 1, Amount: 5}), append(s.Cash.Loose, 5)
		}, []api.Finding{at(27, 3)}},
		"the amount of an issue":     {func(s *api.State) { s.Register.Moves[1].Amount += 10; s.Register.Holdings[1].Amount += 10 }, []api.Finding{at(33, 2)}},
		"the day of an issue":        {func(s *api.State) { s.Register.Moves[0].Day-- }, []api.Finding{at(33, 1)}},
		"the amount of a redemption": {func(s *api.State) { s.Register.Moves[2].Amount -= 10; s.Register.Holdings[0].Amount += 10 }, []api.Finding{at(33, 3)}},
		"the day of a redemption":    {func(s *api.State) { s.Register.Moves[2].Day = 11 }, []api.Finding{at(33, 3)}},
		"a transfer":                 {func(s *api.State) { s.Register, _ = register.Transfer(s.Register, 11, 4, 8, 9, 100) }, nil},
		"an issue too much":          {func(s *api.State) { s.Register, _ = register.Issue(s.Register, 11, 4, 8, 100) }, []api.Finding{at(33, 4)}},
		"one behind a transfer": {func(s *api.State) {
			s.Register, _ = register.Transfer(s.Register, 11, 4, 8, 9, 100)
			s.Register, _ = register.Redeem(s.Register, 11, 4, 8, 100)
		}, []api.Finding{at(33, 5)}},
		"a redemption for an issue": {func(s *api.State) {
			s.Register.Moves[2].Kind = 1
			s.Register.Moves[2].From, s.Register.Moves[2].To = 0, 8
			s.Register.Holdings[0].Amount = 610
		}, []api.Finding{at(33, 3)}},
		"the last move missing": {func(s *api.State) { s.Register.Moves = s.Register.Moves[:2]; s.Register.Holdings[0].Amount = 500 }, []api.Finding{at(33, 3)}},
		"missing behind a transfer": {func(s *api.State) {
			s.Register.Moves = s.Register.Moves[:2]
			s.Register.Holdings[0].Amount = 500
			s.Register, _ = register.Transfer(s.Register, 9, 4, 8, 9, 500)
		}, []api.Finding{at(33, 4)}},
		"all moves missing":           {func(s *api.State) { s.Register.Moves, s.Register.Holdings = nil, nil }, []api.Finding{at(33, 1)}},
		"the day of an entry":         {entries(func(l []api.Entry) []api.Entry { l[0].Day = 2; return l }), []api.Finding{at(27, 1), at(40, 1)}},
		"the amount of an entry":      {entries(func(l []api.Entry) []api.Entry { l[8].Amount = 6; return l }), []api.Finding{at(27, 2), at(40, 8)}},
		"the day of an issue's entry": {entries(func(l []api.Entry) []api.Entry { l[6].Day = 8; return l }), []api.Finding{at(33, 2), at(40, 6)}},
		"the amount of one's entry":   {entries(func(l []api.Entry) []api.Entry { l[7].Amount = 100; return l }), []api.Finding{at(33, 3), at(40, 7)}},
		"the day of a payment":        {entries(func(l []api.Entry) []api.Entry { l[2].Day = 6; return l }), []api.Finding{at(40, 3)}},
		"the day of a return":         {entries(func(l []api.Entry) []api.Entry { l[3].Day = 7; return l }), []api.Finding{at(40, 4)}},
		"the amount of a payment":     {entries(func(l []api.Entry) []api.Entry { l[2].Amount++; return l }), []api.Finding{at(26, 0)}},
		"a move inside":               {entries(func(l []api.Entry) []api.Entry { l[4].Amount = 7; return l }), nil},
		"an entry too much":           {entries(func(l []api.Entry) []api.Entry { return append(l, api.Entry{Day: 11, To: 2, Amount: 1}) }), []api.Finding{at(27, 3), at(40, 9)}},
		"an entry into the main one":  {entries(func(l []api.Entry) []api.Entry { return append(l, api.Entry{Day: 11, To: 1, Amount: 1}) }), []api.Finding{at(33, 4), at(40, 9)}},
		"an entry out of the main":    {entries(func(l []api.Entry) []api.Entry { return append(l, api.Entry{Day: 11, From: 1, Amount: 1}) }), []api.Finding{at(33, 4), at(40, 9)}},
		"an entry out of another one": {entries(func(l []api.Entry) []api.Entry { return append(l, api.Entry{Day: 11, From: 2, Amount: 1}) }), []api.Finding{at(40, 9)}},
		"an entry of another warrant": {entries(func(l []api.Entry) []api.Entry { return append(l, api.Entry{Day: 11, To: 2, Amount: 1, Ref: 99}) }), []api.Finding{at(40, 9)}},
		"one of it into the main one": {entries(func(l []api.Entry) []api.Entry { return append(l, api.Entry{Day: 11, To: 1, Amount: 1, Ref: 99}) }), []api.Finding{at(40, 9)}},
		"an entry missing":            {entries(func(l []api.Entry) []api.Entry { return l[:8] }), []api.Finding{at(27, 2), at(40, 8)}},
		"an issue's entry missing":    {entries(func(l []api.Entry) []api.Entry { return slices.Delete(l, 6, 7) }), []api.Finding{at(33, 2), at(40, 6)}},
	} {
		s := copied(base)
		c.change(&s)
		kept := fmt.Sprint(s)
		if got := Audit(s); !slices.Equal(got, c.want) || kept != fmt.Sprint(s) {
			t.Errorf("%s: %v, not %v", name, got, c.want)
		}
		if Clean(s) != (len(c.want) == 0) {
			t.Errorf("%s: clean %v", name, Clean(s))
		}
	}
	if got := Audit(api.State{}); !slices.Equal(got, []api.Finding{at(23, 0), at(26, 0)}) {
		t.Errorf("nothing: %v", got)
	}
}

// copied returns a state in memory of its own.
func copied(s api.State) api.State {
	next, _, _ := Run(s, nil)
	return next
}

// P45.4

func TestSums(t *testing.T) {
	s := run(t, start(t), receive(3, 2, 7, 100, 0), order(9, 2, 6, 60, 5), send(7), giveBack(8, 9))
	if in, out, debt := Sums(s); in != 160 || out != 60 || debt != 0 {
		t.Errorf("%d, %d, %d", in, out, debt)
	}
	s = run(t, s, issue(8, 4, 8, 500), issue(lastDay/100, 5, 8, 10))
	if in, out, debt := Sums(s); in != 670 || out != 60 || debt != 510 {
		t.Errorf("%d, %d, %d", in, out, debt)
	}
	broken := copied(s)
	broken.Desk.Account.Subs[0].Balance++
	if in, out, debt := Sums(broken); in != 0 || out != 0 || debt != 510 {
		t.Errorf("%d, %d, %d", in, out, debt)
	}
	broken = copied(s)
	broken.Register.Holdings[0].Amount++
	if in, out, debt := Sums(broken); in != 670 || out != 60 || debt != 0 {
		t.Errorf("%d, %d, %d", in, out, debt)
	}
	first := run(t, start(t), receive(0, 2, 7, 100, 0), issue(0, 4, 8, 10))
	last := run(t, first, redeem(lastDay, 4, 8, 10))
	if in, out, debt := Sums(last); in != 110 || out != 10 || debt != 0 {
		t.Errorf("%d, %d, %d", in, out, debt)
	}
}

// The consequences

func TestRandomScripts(t *testing.T) {
	r := rand.New(rand.NewSource(451))
	for range 60 {
		s := start(t)
		day := 0
		for range 80 {
			d := api.Deed{Kind: 1 + r.Intn(9), Day: day, Sub: 1 + r.Intn(3), Who: 1 + r.Intn(3), Ref: 1 + r.Intn(9), Amount: 10 * r.Intn(10), Due: day + r.Intn(9) - 4}
			if d.Kind >= api.DeedIssue && d.Kind < api.DeedMove {
				d.Ref = 4 + r.Intn(2)
			}
			if next, e := Do(s, d); e == api.OK {
				s = next
			}
			if r.Intn(3) == 0 {
				day++
			}
			if findings := Audit(s); len(findings) > 0 {
				t.Fatalf("%v behind %v", findings, d)
			}
		}
		in, out, debt := Sums(s)
		issued := 0
		for _, m := range s.Register.Moves {
			if m.Kind == api.MoveIssue {
				issued += m.Amount
			} else {
				issued -= m.Amount
			}
		}
		cash := ledger.Of(s.Ledger, 1, 110, lastDay)
		if account.Total(s.Desk.Account) != in-out || debt != issued || cash != in-out || receipt.Check(s.Cash) != api.OK || -ledger.Of(s.Ledger, 1, 230, lastDay) != debt {
			t.Fatalf("%d came, %d went, the debt is %d of %d, the cash %d", in, out, debt, issued, cash)
		}
		changed(t, s)
	}
}

// changed fails if an audit does not find a number that was changed.
func changed(t *testing.T, s api.State) {
	t.Helper()
	finds := func(what string, change func(s *api.State)) {
		t.Helper()
		next := copied(s)
		change(&next)
		if Clean(next) {
			t.Fatalf("%s was changed", what)
		}
	}
	for i, e := range s.Desk.Account.Entries {
		if e.From == 0 || e.To == 0 {
			finds("the amount of an entry", func(s *api.State) { s.Desk.Account.Entries[i].Amount++ })
			finds("the day of an entry", func(s *api.State) { s.Desk.Account.Entries[i].Day++ })
			finds("the day of an entry", func(s *api.State) { s.Desk.Account.Entries[i].Day-- })
		}
	}
	for i := range s.Cash.Incomes {
		finds("the amount of an income", func(s *api.State) { s.Cash.Incomes[i].Amount++ })
		finds("the day of an income", func(s *api.State) { s.Cash.Incomes[i].Day++ })
	}
	for i := range s.Ledger.Postings {
		finds("the amount of a posting", func(s *api.State) { s.Ledger.Postings[i].Amount-- })
		finds("the day of a posting", func(s *api.State) { s.Ledger.Postings[i].Day-- })
	}
	for i := range s.Register.Moves {
		finds("the amount of a move", func(s *api.State) { s.Register.Moves[i].Amount += 10 })
		finds("the day of a move", func(s *api.State) { s.Register.Moves[i].Day++ })
	}
	for i := range s.Desk.Account.Subs {
		finds("a balance", func(s *api.State) { s.Desk.Account.Subs[i].Balance-- })
	}
}

func TestResultsAreNewMemory(t *testing.T) {
	s := run(t, start(t), script()...)
	s = run(t, s, order(13, 2, 5, 10, 8))
	kept := fmt.Sprint(s)
	for _, d := range []api.Deed{receive(11, 2, 7, 5, 0), order(20, 2, 5, 10, 9), send(14), take(13), issue(11, 4, 8, 10), redeem(11, 4, 8, 10), move(11, 3, 2, 5)} {
		next, e := Do(s, d)
		if e != api.OK {
			t.Fatalf("%v: error %d", d, e)
		}
		next.Desk.Account.Subs[0].Balance, next.Desk.Account.Entries[0].Amount, next.Desk.Items[0].State, next.Desk.Queue.Known[0] = -1, -1, -1, -1
		next.Desk.Queue.Batches[0].Payments[0].Amount, next.Desk.Queue.Batches[0].Day, next.Cash.Incomes[0].Amount, next.Cash.Loose[0] = -1, -1, -1, -1
		next.Register.Securities[0].Unit, next.Register.Holdings[0].Amount, next.Register.Moves[0].Amount, next.Ledger.Postings[0].Amount = -1, -1, -1, -1
		if kept != fmt.Sprint(s) {
			t.Fatalf("%v: memory is shared", d)
		}
	}
}
