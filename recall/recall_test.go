package recall

import (
	"fmt"
	"math"
	"math/rand"
	"slices"
	"testing"

	"treasury/account"
	"treasury/api"
	"treasury/batch"
)

// The limits are written out here as the document has them, so that a wrong one shows.
const (
	mostAmount   = 1000000000000
	mostNumber   = 1000000
	mostEntries  = 400
	mostWaiting  = 100
	mostWarrants = 200
	mostBatch    = 10
	mostAttempts = 5
	lastDay      = 36000
)

// accountOf returns an account with the sub-accounts 1, 2 and so on and their balances, which came on the day 0.
func accountOf(t *testing.T, credit int, balances ...int) api.Account {
	t.Helper()
	var ids []int
	for i := range balances {
		ids = append(ids, i+1)
	}
	a, e := account.Open(ids, credit)
	if e != api.OK {
		t.Fatalf("error %d", e)
	}
	for i, n := range balances {
		if n > 0 {
			a = post(t, a, 0, 0, i+1, n, 0)
		}
	}
	return a
}

// post returns an account with one more entry, which must be possible.
func post(t *testing.T, a api.Account, day, from, to, amount, ref int) api.Account {
	t.Helper()
	a, e := account.Post(a, account.Next(a, day, from, to, amount, ref))
	if e != api.OK {
		t.Fatalf("error %d", e)
	}
	return a
}

// deskOf returns a desk of accountOf.
func deskOf(t *testing.T, balances ...int) api.Desk {
	t.Helper()
	return good(t, "Open")(Open(accountOf(t, 0, balances...)))
}

// good fails unless there is no error, and the desk is right.
func good(t *testing.T, name string) func(d api.Desk, e api.Errno) api.Desk {
	t.Helper()
	return func(d api.Desk, e api.Errno) api.Desk {
		t.Helper()
		if e != api.OK || Check(d) != api.OK {
			t.Fatalf("%s: error %d, desk %d", name, e, Check(d))
		}
		return d
	}
}

// send returns a desk after Send on a day, which must send some warrants.
func send(t *testing.T, d api.Desk, day int, want ...int) api.Desk {
	t.Helper()
	next, b, e := Send(d, day)
	if got := sentIn(b); e != api.OK || Check(next) != api.OK || !slices.Equal(got, want) {
		t.Fatalf("day %d: %v, not %v, error %d, desk %d", day, got, want, e, Check(next))
	}
	return next
}

func sentIn(b api.Batch) []int {
	var l []int
	for _, p := range b.Payments {
		l = append(l, p.Warrant)
	}
	return l
}

// pays is a payment out of the sub-account 2 that is due on the day 7.
func pays(warrant, amount int) api.Payment {
	return api.Payment{Warrant: warrant, Payee: 3, Amount: amount, Due: 7, Sub: 2}
}

// example is a desk with a payment in each state: 1 is queued, 2 sent, 3 settled, 4 returned, 5 recalled, 6 queued again, and 7 sent again.
func example(t *testing.T) api.Desk {
	t.Helper()
	d := deskOf(t, 50, 100)
	for i := range 7 {
		d = good(t, "Order")(Order(d, pays(i+1, 10*(i+1))))
	}
	d = good(t, "Recall")(Recall(d, 5))
	d = good(t, "Recall")(Recall(d, 1))
	d.Account = post(t, d.Account, 5, 0, 2, 900, 0)
	d = send(t, d, 7, 2, 3, 4, 6, 7)
	d = good(t, "Settle")(Settle(d, 3))
	for _, warrant := range []int{4, 6, 7} {
		d = good(t, "Return")(Return(d, warrant, 8))
	}
	d = good(t, "Again")(Again(d, 7, 9))
	d = send(t, d, 9, 7)
	d = good(t, "Again")(Again(d, 6, 20))
	d.Queue.Waiting = append([]api.Payment{pays(1, 10)}, d.Queue.Waiting...)
	d.Items[0].State = api.StateQueued
	return good(t, "the example")(d, api.OK)
}

func TestStates(t *testing.T) {
	d := example(t)
	for warrant, want := range map[int]int{1: api.StateQueued, 2: api.StateSent, 3: api.StateSettled, 4: api.StateReturned, 5: api.StateRecalled, 6: api.StateQueued, 7: api.StateSent, 0: 0, 8: 0, -1: 0, math.MinInt: 0, math.MaxInt: 0} {
		if got := State(d, warrant); got != want {
			t.Errorf("%d: %d, not %d", warrant, got, want)
		}
	}
	var attempts []int
	for _, x := range d.Items {
		attempts = append(attempts, x.Attempts)
	}
	if want := []int{0, 1, 1, 1, 0, 1, 2}; !slices.Equal(attempts, want) {
		t.Errorf("%v attempts, not %v", attempts, want)
	}
	if got := Paid(d); got != 30 {
		t.Errorf("paid %d", got)
	}
	if d.Items[5].Payment.Due != 20 || d.Queue.Batches[0].Payments[3].Due != 7 {
		t.Errorf("%v", d)
	}
	if got, _ := account.Balance(d.Account, 2); got != 1000-20-30-70 {
		t.Errorf("a balance of %d", got)
	}
}

// P26.1

func TestOpen(t *testing.T) {
	a := accountOf(t, 0, 10, 20)
	d, e := Open(a)
	if want := (api.Desk{Account: a}); e != api.OK || fmt.Sprint(d) != fmt.Sprint(want) {
		t.Errorf("%v, error %d", d, e)
	}
	broken := accountOf(t, 0, 10)
	broken.Subs[0].Balance++
	marked := post(t, a, 3, 1, 0, 5, 7)
	for _, c := range []struct {
		a    api.Account
		want api.Errno
	}{{api.Account{}, api.ErrAccount}, {broken, api.ErrAccount}, {marked, api.ErrDesk}, {post(t, marked, 3, 1, 2, 5, 0), api.ErrDesk}, {api.Account{Subs: make([]api.Sub, 21)}, api.ErrLimit}} {
		if d, e := Open(c.a); e != c.want || fmt.Sprint(d) != fmt.Sprint(api.Desk{}) {
			t.Errorf("%v: %v, error %d, not %d", c.a, d, e, c.want)
		}
	}
}

// wrong are changes that make the example a desk with an error.
func wrong(t *testing.T) map[string]struct {
	change func(d *api.Desk)
	want   api.Errno
} {
	type row = struct {
		change func(d *api.Desk)
		want   api.Errno
	}
	replay := func(d *api.Desk, change func(l []api.Entry)) {
		change(d.Account.Entries)
		a := api.Account{Credit: 5000, Subs: []api.Sub{{ID: 1}, {ID: 2}, {ID: 3}}}
		a = post(t, a, 0, 0, 2, 5000, 0)
		a = post(t, a, 0, 0, 3, 5000, 0)
		for _, e := range d.Account.Entries {
			a = post(t, a, e.Day, e.From, e.To, e.Amount, e.Ref)
		}
		d.Account = a
	}
	return map[string]row{
		"a balance":                        {func(d *api.Desk) { d.Account.Subs[0].Balance++ }, api.ErrAccount},
		"a balance and a queue":            {func(d *api.Desk) { d.Account.Subs[0].Balance++; d.Queue.Known[0] = 0 }, api.ErrAccount},
		"too many entries":                 {func(d *api.Desk) { d.Account.Entries = make([]api.Entry, mostEntries+1) }, api.ErrLimit},
		"the queue":                        {func(d *api.Desk) { d.Queue.Known[0] = 0 }, api.ErrPayment},
		"too long a queue":                 {func(d *api.Desk) { d.Queue.Waiting = make([]api.Payment, mostWaiting+1); d.Items = nil }, api.ErrLimit},
		"the queue and an item":            {func(d *api.Desk) { d.Queue.Known[0] = 0; d.Items = nil }, api.ErrPayment},
		"no items":                         {func(d *api.Desk) { d.Items = nil }, api.ErrDesk},
		"an item missing":                  {func(d *api.Desk) { d.Items = slices.Delete(d.Items, 4, 5) }, api.ErrDesk},
		"an item too much":                 {func(d *api.Desk) { d.Items = append(d.Items, api.Item{Payment: pays(8, 1), State: api.StateRecalled}) }, api.ErrDesk},
		"an item that is not known":        {func(d *api.Desk) { d.Queue.Known = slices.Delete(d.Queue.Known, 4, 5) }, api.ErrDesk},
		"items not in order":               {func(d *api.Desk) { d.Items[3], d.Items[4] = d.Items[4], d.Items[3] }, api.ErrDesk},
		"an item twice":                    {func(d *api.Desk) { d.Items[4] = d.Items[3] }, api.ErrDesk},
		"a payment that is not valid":      {func(d *api.Desk) { d.Items[4].Payment.Amount = 0 }, api.ErrDesk},
		"another payment not valid":        {func(d *api.Desk) { d.Items[4].Payment.Payee = 0 }, api.ErrDesk},
		"another one due on no day":        {func(d *api.Desk) { d.Items[3].Payment.Due = lastDay - 9 }, api.ErrDesk},
		"a sub-account that is not there":  {func(d *api.Desk) { d.Items[4].Payment.Sub = 3 }, api.ErrDesk},
		"the state 0":                      {func(d *api.Desk) { d.Items[4].State = 0 }, api.ErrDesk},
		"the state 6":                      {func(d *api.Desk) { d.Items[4].State = 6 }, api.ErrDesk},
		"a negative state":                 {func(d *api.Desk) { d.Items[4].State = math.MinInt }, api.ErrDesk},
		"an attempt too much":              {func(d *api.Desk) { d.Items[1].Attempts = 2 }, api.ErrDesk},
		"an attempt missing":               {func(d *api.Desk) { d.Items[6].Attempts = 1 }, api.ErrDesk},
		"negative attempts":                {func(d *api.Desk) { d.Items[4].Attempts = -1 }, api.ErrDesk},
		"what is recalled waits":           {func(d *api.Desk) { d.Items[0].State = api.StateRecalled }, api.ErrDesk},
		"what is queued does not wait":     {func(d *api.Desk) { d.Items[4].State = api.StateQueued }, api.ErrDesk},
		"what waits is missing":            {func(d *api.Desk) { d.Queue.Waiting = d.Queue.Waiting[1:] }, api.ErrDesk},
		"what waits is another payment":    {func(d *api.Desk) { d.Queue.Waiting[0].Amount++ }, api.ErrDesk},
		"what waits is for another one":    {func(d *api.Desk) { d.Queue.Waiting[0].Payee++ }, api.ErrDesk},
		"what waits is due on another day": {func(d *api.Desk) { d.Queue.Waiting[1].Due++ }, api.ErrDesk},
		"what was sent waits":              {func(d *api.Desk) { d.Queue.Waiting = append(d.Queue.Waiting, pays(3, 30)); d.Queue.Waiting[2].Due = 30 }, api.ErrDesk},
		"what was not sent was settled":    {func(d *api.Desk) { d.Items[4].State = api.StateSettled }, api.ErrDesk},
		"what was not sent was sent":       {func(d *api.Desk) { d.Items[4].State = api.StateSent }, api.ErrDesk},
		"what was not sent was returned":   {func(d *api.Desk) { d.Items[4].State = api.StateReturned }, api.ErrDesk},
		"what was sent was returned":       {func(d *api.Desk) { d.Items[1].State = api.StateReturned }, api.ErrDesk},
		"what was sent was recalled":       {func(d *api.Desk) { d.Items[1].State = api.StateRecalled }, api.ErrDesk},
		"what was returned was settled":    {func(d *api.Desk) { d.Items[3].State = api.StateSettled }, api.ErrDesk},
		"another amount":                   {func(d *api.Desk) { d.Items[2].Payment.Amount++ }, api.ErrDesk},
		"another sub-account":              {func(d *api.Desk) { d.Items[2].Payment.Sub = 1 }, api.ErrDesk},
		"no batch":                         {func(d *api.Desk) { d.Queue.Batches = d.Queue.Batches[:1] }, api.ErrDesk},
		"not in the batch":                 {func(d *api.Desk) { d.Queue.Batches[0].Payments = d.Queue.Batches[0].Payments[1:] }, api.ErrDesk},
		"an entry of another amount":       {func(d *api.Desk) { replay(d, func(l []api.Entry) { l[3].Amount++ }) }, api.ErrDesk},
		"an entry to another end":          {func(d *api.Desk) { replay(d, func(l []api.Entry) { l[3].To = 1 }) }, api.ErrDesk},
		"an entry from another end":        {func(d *api.Desk) { replay(d, func(l []api.Entry) { l[3].From = 1 }) }, api.ErrDesk},
		"an entry the other way":           {func(d *api.Desk) { replay(d, func(l []api.Entry) { l[3].From, l[3].To = 0, 2 }) }, api.ErrDesk},
		"an entry that is not its own":     {func(d *api.Desk) { replay(d, func(l []api.Entry) { l[3].Ref = 0 }) }, api.ErrDesk},
		"an entry of what was recalled":    {func(d *api.Desk) { replay(d, func(l []api.Entry) { l[2].Ref = 5 }) }, api.ErrDesk},
		"a return that is not its own":     {func(d *api.Desk) { replay(d, func(l []api.Entry) { l[8].Ref = 0 }) }, api.ErrDesk},
		"other balances": {func(d *api.Desk) {
			replay(d, func(l []api.Entry) {})
		}, api.OK},
		"an entry of another warrant":    {func(d *api.Desk) { d.Account = post(t, d.Account, 9, 0, 1, 5, 77) }, api.OK},
		"a batch with another amount":    {func(d *api.Desk) { d.Queue.Batches[0].Payments[0].Amount++ }, api.OK},
		"a recalled one with a payment":  {func(d *api.Desk) { d.Items[4].Payment.Payee++ }, api.OK},
		"five attempts":                  {func(d *api.Desk) { attempts(t, d, 5, api.StateReturned) }, api.OK},
		"five attempts, recalled":        {func(d *api.Desk) { attempts(t, d, 5, api.StateRecalled) }, api.OK},
		"six attempts":                   {func(d *api.Desk) { attempts(t, d, 6, api.StateReturned) }, api.ErrDesk},
		"six attempts, recalled":         {func(d *api.Desk) { attempts(t, d, 6, api.StateRecalled) }, api.ErrDesk},
		"four attempts, queued":          {func(d *api.Desk) { attempts(t, d, 4, api.StateQueued) }, api.OK},
		"five attempts, queued":          {func(d *api.Desk) { attempts(t, d, 5, api.StateQueued) }, api.ErrDesk},
		"what was sent, settled":         {func(d *api.Desk) { d.Items[1].State = api.StateSettled }, api.OK},
		"what was returned, recalled":    {func(d *api.Desk) { d.Items[3].State = api.StateRecalled }, api.OK},
		"what was settled, sent":         {func(d *api.Desk) { d.Items[2].State = api.StateSent }, api.OK},
		"what was returned is due later": {func(d *api.Desk) { d.Items[3].Payment.Due = lastDay - 10 }, api.OK},
	}
}

// attempts makes a desk one with the payment 1 alone, after so many attempts.
func attempts(t *testing.T, d *api.Desk, n, state int) {
	t.Helper()
	*d = deskOf(t, 0, 10)
	d.Queue.Known = []int{1}
	for i := range n {
		d.Queue.Batches = append(d.Queue.Batches, api.Batch{Number: i + 1, Day: 7, Payments: []api.Payment{pays(1, 10)}})
		d.Account = post(t, post(t, d.Account, 7, 2, 0, 10, 1), 7, 0, 2, 10, 1)
	}
	d.Items = []api.Item{{Payment: pays(1, 10), State: state, Attempts: n}}
	if state == api.StateQueued {
		d.Queue.Waiting = []api.Payment{pays(1, 10)}
	}
}

func TestCheck(t *testing.T) {
	for name, c := range wrong(t) {
		d := example(t)
		c.change(&d)
		if e := Check(d); e != c.want {
			t.Errorf("%s: error %d, not %d", name, e, c.want)
		}
		if c.want != api.OK {
			fails(t, name, d, c.want)
		}
	}
	if e := Check(api.Desk{}); e != api.ErrAccount {
		t.Errorf("nothing: error %d", e)
	}
}

// fails fails unless all functions have the error of a desk that is not right.
func fails(t *testing.T, name string, d api.Desk, want api.Errno) {
	t.Helper()
	zero := func(what string) func(d api.Desk, e api.Errno) {
		return func(d api.Desk, e api.Errno) {
			if e != want || fmt.Sprint(d) != fmt.Sprint(api.Desk{}) {
				t.Errorf("%s, %s: %v, error %d, not %d", name, what, d, e, want)
			}
		}
	}
	zero("Order")(Order(d, api.Payment{}))
	zero("Order")(Order(d, pays(9, 9)))
	zero("Recall")(Recall(d, 1))
	zero("Settle")(Settle(d, 2))
	zero("Return")(Return(d, 2, 9))
	zero("Again")(Again(d, 4, 9))
	next, b, e := Send(d, 5)
	zero("Send")(next, e)
	if b.Number != 0 || b.Day != 0 || len(b.Payments) != 0 {
		t.Errorf("%s, Send: %v", name, b)
	}
	if State(d, 3) != 0 || Paid(d) != 0 {
		t.Errorf("%s: state %d, paid %d", name, State(d, 3), Paid(d))
	}
}

// P26.2

func TestOrderAndRecall(t *testing.T) {
	for _, c := range []struct {
		p    api.Payment
		want api.Errno
	}{
		{pays(8, 1), api.OK},
		{api.Payment{Warrant: mostNumber, Payee: 1, Amount: mostAmount, Due: lastDay - 10, Sub: 1}, api.OK},
		{pays(8, 0), api.ErrPayment},
		{pays(0, 5), api.ErrPayment},
		{api.Payment{Warrant: 1}, api.ErrPayment},
		{pays(1, 5), api.ErrKnown},
		{pays(3, 30), api.ErrKnown},
		{pays(5, 50), api.ErrKnown},
		{api.Payment{Warrant: 5, Payee: 1, Amount: 1, Sub: 3}, api.ErrKnown},
		{api.Payment{Warrant: 8, Payee: 1, Amount: 1, Sub: 3}, api.ErrSub},
		{api.Payment{Warrant: 77, Payee: 1, Amount: 1, Sub: 3}, api.ErrSub},
		{pays(77, 5), api.ErrKnown},
	} {
		d := example(t)
		d.Account = post(t, d.Account, 9, 0, 1, 5, 77)
		kept := fmt.Sprint(d)
		got, e := Order(d, c.p)
		if e != c.want || kept != fmt.Sprint(d) {
			t.Errorf("%v: error %d, not %d, or changed", c.p, e, c.want)
		}
		if e != api.OK {
			if fmt.Sprint(got) != fmt.Sprint(api.Desk{}) {
				t.Errorf("%v: %v beside an error", c.p, got)
			}
			continue
		}
		want := d
		want.Queue, _ = batch.Add(d.Queue, c.p)
		want.Items = append(slices.Clone(d.Items), api.Item{Payment: c.p, State: api.StateQueued})
		if fmt.Sprint(got) != fmt.Sprint(want) || Check(got) != api.OK {
			t.Errorf("%v: %v, not %v", c.p, got, want)
		}
	}
	first := good(t, "Order")(Order(deskOf(t, 5, 5), pays(9, 5)))
	first = good(t, "Order")(Order(first, pays(4, 5)))
	if first.Items[0].Payment.Warrant != 4 || first.Items[1].Payment.Warrant != 9 {
		t.Errorf("%v", first.Items)
	}
	full := deskOf(t, 5, 5)
	for i := range mostWaiting {
		full = good(t, "Order")(Order(full, pays(i+1, 5)))
	}
	if _, e := Order(full, pays(mostWaiting+1, 5)); e != api.ErrLimit {
		t.Errorf("a full queue: error %d", e)
	}
	if _, e := Order(full, api.Payment{Warrant: mostWaiting + 1, Payee: 1, Amount: 1, Sub: 9}); e != api.ErrLimit {
		t.Errorf("a full queue, and no sub-account: error %d", e)
	}
}

func TestStages(t *testing.T) {
	type does func(d api.Desk, warrant int) (api.Desk, api.Errno)
	for name, c := range map[string]struct {
		do   does
		from []int // the warrants for which it is possible
		to   int
	}{
		"Recall": {Recall, []int{1, 6}, api.StateRecalled},
		"Settle": {Settle, []int{2, 7}, api.StateSettled},
		"Return": {func(d api.Desk, warrant int) (api.Desk, api.Errno) { return Return(d, warrant, 12) }, []int{2, 7}, api.StateReturned},
		"Again":  {func(d api.Desk, warrant int) (api.Desk, api.Errno) { return Again(d, warrant, 12) }, []int{4}, api.StateQueued},
	} {
		for _, warrant := range []int{1, 2, 3, 4, 5, 6, 7, 8, 0, -7, math.MaxInt} {
			want := api.ErrStage
			switch {
			case slices.Contains(c.from, warrant):
				want = api.OK
			case warrant < 1 || warrant > 7:
				want = api.ErrUnknown
			}
			d := example(t)
			kept := fmt.Sprint(d)
			got, e := c.do(d, warrant)
			if e != want || kept != fmt.Sprint(d) || e != api.OK && fmt.Sprint(got) != fmt.Sprint(api.Desk{}) {
				t.Errorf("%s of %d: %v, error %d, not %d", name, warrant, got, e, want)
			}
			if e == api.OK && (Check(got) != api.OK || State(got, warrant) != c.to) {
				t.Errorf("%s of %d: error %d, state %d", name, warrant, Check(got), State(got, warrant))
			}
		}
	}
	d := good(t, "Recall")(Recall(example(t), 6))
	if got := sentIn(api.Batch{Payments: d.Queue.Waiting}); !slices.Equal(got, []int{1}) || !slices.Contains(d.Queue.Known, 6) {
		t.Errorf("%v waits", got)
	}
}

// P26.3

func TestSend(t *testing.T) {
	d := deskOf(t, 15, 100)
	for _, p := range []api.Payment{pays(1, 60), pays(2, 50), pays(3, 40), {Warrant: 4, Payee: 1, Amount: 16, Due: 7, Sub: 1}, {Warrant: 5, Payee: 1, Amount: 15, Due: 6, Sub: 1}, {Warrant: 6, Payee: 1, Amount: 1, Due: 8, Sub: 2}} {
		d = good(t, "Order")(Order(d, p))
	}
	kept := fmt.Sprint(d)
	// The second one cannot be paid behind the first one; the sixth one is not due.
	next, b, e := Send(d, 7)
	want := api.Batch{Number: 1, Day: 7, Payments: []api.Payment{{Warrant: 5, Payee: 1, Amount: 15, Due: 6, Sub: 1}, pays(1, 60), pays(3, 40)}}
	if e != api.OK || fmt.Sprint(b) != fmt.Sprint(want) || Check(next) != api.OK {
		t.Fatalf("%v, error %d, desk %d", b, e, Check(next))
	}
	entries := []api.Entry{{Number: 3, Day: 7, From: 1, To: 0, Amount: 15, Ref: 5}, {Number: 4, Day: 7, From: 2, To: 0, Amount: 60, Ref: 1}, {Number: 5, Day: 7, From: 2, To: 0, Amount: 40, Ref: 3}}
	if !slices.Equal(next.Account.Entries[2:], entries) {
		t.Errorf("%v, not %v", next.Account.Entries[2:], entries)
	}
	for warrant, want := range map[int]int{1: api.StateSent, 2: api.StateQueued, 3: api.StateSent, 4: api.StateQueued, 5: api.StateSent, 6: api.StateQueued} {
		if got := State(next, warrant); got != want {
			t.Errorf("%d: state %d, not %d", warrant, got, want)
		}
	}
	b.Payments[0].Amount = -1
	if kept != fmt.Sprint(d) || Check(next) != api.OK || next.Queue.Batches[0].Payments[0].Amount != 15 {
		t.Error("memory is shared")
	}
}

func TestSendAtMostABatch(t *testing.T) {
	d := deskOf(t, 0, 1000)
	for i := range 13 {
		d = good(t, "Order")(Order(d, pays(i+1, 20+10*i)))
	}
	d = good(t, "Order")(Order(d, api.Payment{Warrant: 20, Payee: 1, Amount: 1, Due: 0, Sub: 1}))
	// The warrant 20 comes first, but cannot be paid; 20 to 110 are 650.
	d = send(t, d, 7, 1, 2, 3, 4, 5, 6, 7, 8, 9, 10)
	d = send(t, d, 7, 11, 12)
	if _, _, e := Send(d, 7); e != api.ErrNone {
		t.Errorf("error %d", e)
	}
}

func TestErrorsOfSend(t *testing.T) {
	limit := func() api.Desk { // 399 entries, and two payments
		d := deskOf(t, 0, 5)
		for len(d.Account.Entries) < mostEntries-1 {
			d.Account.Entries = append(d.Account.Entries, api.Entry{Number: len(d.Account.Entries) + 1, To: 1, Amount: 1})
			d.Account.Subs[0].Balance++
		}
		d = good(t, "Order")(Order(d, pays(1, 5)))
		return good(t, "Order")(Order(d, api.Payment{Warrant: 2, Payee: 1, Amount: 1, Due: 8, Sub: 1}))
	}
	full := send(t, limit(), 7, 1)
	sent := example(t)
	sent.Queue.Batches[1].Day = 21
	idle := deskOf(t, 5, 5)
	idle.Queue = api.Queue{Known: []int{1}, Batches: []api.Batch{{Number: 1, Day: 21, Payments: []api.Payment{pays(1, 5)}}}}
	idle.Items = []api.Item{{Payment: pays(1, 5), State: api.StateSettled, Attempts: 1}}
	idle.Account = post(t, idle.Account, 0, 2, 0, 5, 1)
	single := deskOf(t, 0, 0)
	single.Account = post(t, single.Account, 10, 0, 1, 5, 0)
	late := example(t)
	late.Account = post(t, late.Account, 10, 0, 1, 5, 0)
	ordered := good(t, "Order")(Order(deskOf(t, 5, 0), pays(1, 5)))
	for _, c := range []struct {
		name string
		d    api.Desk
		day  int
		want api.Errno
	}{
		{"no business day", example(t), 12, api.ErrHoliday},
		{"none either, and too early", example(t), 6, api.ErrHoliday},
		{"a day below 0", example(t), -7, api.ErrHoliday},
		{"a day too late", example(t), lastDay + 1, api.ErrHoliday},
		{"before the last batch", example(t), 8, api.ErrOrder},
		{"before the last batch, behind the last entry", sent, 18, api.ErrOrder},
		{"before the last batch, and nothing waits", idle, 18, api.ErrOrder},
		{"behind the last batch", sent, 21, api.OK},
		{"behind the last batch, and nothing waits", idle, 21, api.ErrNone},
		{"before the last entry", late, 9, api.ErrOrder},
		{"on the day of the last entry", late, 10, api.OK},
		{"on the day of the last batch", example(t), 9, api.OK},
		{"not enough money", ordered, 7, api.ErrNone},
		{"nothing is due", ordered, 4, api.ErrNone},
		{"nothing at all", deskOf(t, 5, 5), 4, api.ErrNone},
		{"no entries", deskOf(t, 0, 0), 4, api.ErrNone},
		{"before the only entry", single, 9, api.ErrOrder},
		{"on the day of the only entry", single, 10, api.ErrNone},
		{"400 entries", full, 8, api.ErrLimit},
		{"400 entries, and nothing is due", full, 7, api.ErrNone},
		{"400 entries, on a holiday", full, 13, api.ErrHoliday},
		{"400 entries in between", limit(), 8, api.OK},
	} {
		kept := fmt.Sprint(c.d)
		got, b, e := Send(c.d, c.day)
		if e != c.want || kept != fmt.Sprint(c.d) {
			t.Errorf("%s: error %d, not %d, or changed", c.name, e, c.want)
		}
		if (fmt.Sprint(got) == fmt.Sprint(api.Desk{})) != (e != api.OK) || (len(b.Payments) == 0) != (e != api.OK) || e != api.OK && (b.Number != 0 || b.Day != 0) {
			t.Errorf("%s: %v, %v", c.name, got, b)
		}
	}
	// 200 batches, and an entry is still possible.
	many := deskOf(t, 5, 5)
	for i := range mostWarrants {
		many.Queue.Batches = append(many.Queue.Batches, api.Batch{Number: i + 1, Day: 7, Payments: []api.Payment{pays(i+1, 1)}})
		many.Queue.Known = append(many.Queue.Known, i+1)
		many.Items = append(many.Items, api.Item{Payment: pays(i+1, 1), State: api.StateSettled, Attempts: 1})
	}
	many.Account.Entries = many.Account.Entries[:2]
	many.Account = post(t, many.Account, 0, 0, 2, 500, 0)
	for i := range mostWarrants {
		many.Account = post(t, many.Account, 7, 2, 0, 1, i+1)
	}
	many = good(t, "200 batches")(many, api.OK)
	back := many
	back.Items = slices.Clone(many.Items)
	back.Items[0].State = api.StateSent
	back = good(t, "Return")(Return(back, 1, 7))
	back = good(t, "Again")(Again(back, 1, 7))
	if _, _, e := Send(back, 7); e != api.ErrLimit {
		t.Errorf("200 batches: error %d", e)
	}
	if _, _, e := Send(many, 7); e != api.ErrNone {
		t.Errorf("200 batches, and nothing waits: error %d", e)
	}
}

// P26.4

func TestReturnAndAgain(t *testing.T) {
	d := send(t, good(t, "Order")(Order(deskOf(t, 0, 9), pays(1, 9))), 7, 1)
	for day, want := range map[int]api.Errno{6: api.ErrOrder, -1: api.ErrOrder, lastDay + 1: api.ErrOrder, 7: api.OK, lastDay: api.OK} {
		got, e := Return(d, 1, day)
		if e != want || e != api.OK && fmt.Sprint(got) != fmt.Sprint(api.Desk{}) {
			t.Errorf("day %d: %v, error %d, not %d", day, got, e, want)
		}
	}
	d = good(t, "Return")(Return(d, 1, 12))
	if want := (api.Entry{Number: 3, Day: 12, From: 0, To: 2, Amount: 9, Ref: 1}); d.Account.Entries[2] != want {
		t.Errorf("%v", d.Account.Entries[2])
	}
	for due, want := range map[int]api.Errno{-1: api.ErrPayment, lastDay - 9: api.ErrPayment, 0: api.OK, lastDay - 10: api.OK} {
		if got, e := Again(d, 1, due); e != want || e != api.OK && fmt.Sprint(got) != fmt.Sprint(api.Desk{}) {
			t.Errorf("due on %d: %v, error %d, not %d", due, got, e, want)
		}
	}
	day := 14
	for attempt := 2; attempt <= mostAttempts; attempt++ {
		d = good(t, "Again")(Again(d, 1, 9))
		if d.Items[0].Payment.Due != 9 || !slices.Equal(d.Queue.Waiting, []api.Payment{d.Items[0].Payment}) {
			t.Fatalf("%v", d)
		}
		d = good(t, "Return")(Return(send(t, d, day, 1), 1, day))
		if d.Items[0].Attempts != attempt {
			t.Fatalf("%d attempts, not %d", d.Items[0].Attempts, attempt)
		}
		day += 7
	}
	for _, due := range []int{9, -1} {
		if got, e := Again(d, 1, due); e != api.ErrLimit || fmt.Sprint(got) != fmt.Sprint(api.Desk{}) {
			t.Errorf("six attempts: %v, error %d", got, e)
		}
	}
	full := deskOf(t, 0, 9)
	full = send(t, good(t, "Order")(Order(full, pays(1000, 9))), 7, 1000)
	full = good(t, "Return")(Return(full, 1000, 7))
	for i := range mostWaiting {
		full = good(t, "Order")(Order(full, pays(i+1, 5)))
	}
	if _, e := Again(full, 1000, 7); e != api.ErrLimit {
		t.Errorf("100 wait: error %d", e)
	}
	entries := send(t, good(t, "Order")(Order(deskOf(t, 0, 9), pays(1, 9))), 7, 1)
	for len(entries.Account.Entries) < mostEntries {
		entries.Account.Entries = append(entries.Account.Entries, api.Entry{Number: len(entries.Account.Entries) + 1, Day: 7, To: 1, Amount: 1})
		entries.Account.Subs[0].Balance++
	}
	if got, e := Return(entries, 1, 6); e != api.ErrLimit || fmt.Sprint(got) != fmt.Sprint(api.Desk{}) {
		t.Errorf("400 entries: %v, error %d", got, e)
	}
}

// The consequences, and P1

// book is what a desk has to say of a payment, kept by other means.
type book struct{ state, attempts int }

func TestRandomDesks(t *testing.T) {
	r := rand.New(rand.NewSource(261))
	for range 40 {
		d := deskOf(t, 30, 60)
		know := map[int]*book{}
		day := 0
		for range 120 {
			warrant := 1 + r.Intn(8)
			b := know[warrant]
			state := 0
			if b != nil {
				state = b.state
			}
			next, e, wanted := d, api.OK, true
			switch r.Intn(7) {
			case 0:
				next, e = Order(d, api.Payment{Warrant: warrant, Payee: 1, Amount: 5 * warrant, Due: r.Intn(30), Sub: 1 + warrant%2})
				wanted = b == nil
				if e == api.OK {
					know[warrant] = &book{state: api.StateQueued}
				}
			case 1:
				next, e = Recall(d, warrant)
				wanted = state == api.StateQueued
				if e == api.OK {
					b.state = api.StateRecalled
				}
			case 2:
				next, e = Settle(d, warrant)
				wanted = state == api.StateSent
				if e == api.OK {
					b.state = api.StateSettled
				}
			case 3, 4:
				next, e = Return(d, warrant, day)
				wanted = state == api.StateSent
				if e == api.OK {
					b.state = api.StateReturned
				}
			case 5:
				next, e = Again(d, warrant, day+r.Intn(5))
				wanted = state == api.StateReturned && b.attempts < mostAttempts
				if e == api.OK {
					b.state = api.StateQueued
				}
			case 6:
				var sent api.Batch
				next, sent, e = Send(d, day)
				wanted = e == api.OK
				for _, p := range sent.Payments {
					know[p.Warrant].state = api.StateSent
					know[p.Warrant].attempts++
				}
				day += r.Intn(3)
			}
			if (e == api.OK) != wanted {
				t.Fatalf("%d in state %d: error %d", warrant, state, e)
			}
			if e == api.OK {
				d = next
			}
			agrees(t, d, know)
		}
	}
}

// agrees fails unless a desk is right, and says what is known.
func agrees(t *testing.T, d api.Desk, know map[int]*book) {
	t.Helper()
	if e := Check(d); e != api.OK || len(d.Items) != len(know) {
		t.Fatalf("error %d: %v", e, d)
	}
	gone, paid := 0, 0
	for _, x := range d.Items {
		b := know[x.Payment.Warrant]
		if x.State != b.state || x.Attempts != b.attempts {
			t.Fatalf("%v, not %v", x, b)
		}
		if x.State == api.StateSent || x.State == api.StateSettled {
			gone += x.Payment.Amount
		}
		if x.State == api.StateSettled {
			paid += x.Payment.Amount
		}
	}
	if account.Total(d.Account) != 90-gone || Paid(d) != paid {
		t.Fatalf("a total of %d, not %d less than 90; %d are paid, not %d", account.Total(d.Account), gone, Paid(d), paid)
	}
}

func TestExample(t *testing.T) {
	d := send(t, good(t, "Order")(Order(deskOf(t, 0, 9), pays(1, 9))), 7, 1)
	d = good(t, "Again")(Again(good(t, "Return")(Return(d, 1, 8)), 1, 8))
	d = send(t, d, 8, 1)
	in, out := account.Flow(d.Account, 1, lastDay)
	if d.Items[0].Attempts != 2 || in != 9 || out != 18 || len(d.Account.Entries) != 4 {
		t.Errorf("%v", d)
	}
}

func TestResultsAreNewMemory(t *testing.T) {
	d := example(t)
	kept := fmt.Sprint(d)
	opened, _ := Open(accountOf(t, 0, 5))
	opened.Account.Subs[0].Balance = -1
	var l []api.Desk
	add := func(d api.Desk, e api.Errno) {
		if e != api.OK {
			t.Fatalf("error %d", e)
		}
		l = append(l, d)
	}
	add(Order(d, pays(9, 9)))
	add(Recall(d, 1))
	add(Settle(d, 2))
	add(Return(d, 2, 9))
	add(Again(d, 4, 9))
	next, _, e := Send(d, 9)
	add(next, e)
	for _, x := range l {
		x.Account.Subs[0].Balance, x.Account.Entries[0].Amount, x.Items[0].State, x.Queue.Known[0] = -1, -1, -1, -1
		x.Queue.Batches[0].Day, x.Queue.Batches[0].Payments[0].Amount = -1, -1
		for i := range x.Queue.Waiting {
			x.Queue.Waiting[i].Amount = -1
		}
	}
	if kept != fmt.Sprint(d) {
		t.Error("memory is shared")
	}
	a := accountOf(t, 0, 5)
	opened, _ = Open(a)
	opened.Account.Subs[0].Balance, opened.Account.Entries[0].Amount = -1, -1
	if account.Check(a) != api.OK {
		t.Error("memory is shared with the account")
	}
}
