package batch

import (
	"fmt"
	"math"
	"math/rand"
	"slices"
	"testing"

	"treasury/api"
)

// The limits are written out here as the document has them, so that a wrong one shows.
const (
	mostAmount   = 1000000000000
	mostNumber   = 1000000
	mostWaiting  = 100
	mostWarrants = 200
	mostBatch    = 10
	lastDay      = 36000
)

// paymentOf returns a payment of 5 times its warrant.
func paymentOf(warrant, due int) api.Payment {
	return api.Payment{Warrant: warrant, Payee: 3, Amount: 5 * warrant, Due: due, Sub: 1}
}

func batchOf(number, day int, l ...api.Payment) api.Batch {
	return api.Batch{Number: number, Day: day, Payments: l}
}

// example is a queue in which 4, 2 and 6 wait, 1, 3 and 6 were sent, and 8 was taken back.
func example() api.Queue {
	return api.Queue{
		Waiting: []api.Payment{paymentOf(4, 10), paymentOf(2, 14), paymentOf(6, 14)},
		Known:   []int{1, 2, 3, 4, 6, 8},
		Batches: []api.Batch{batchOf(1, 7, paymentOf(3, 0), paymentOf(1, 5)), batchOf(2, 7, paymentOf(6, 7))},
	}
}

func same(a, b api.Queue) bool {
	return slices.Equal(a.Waiting, b.Waiting) && slices.Equal(a.Known, b.Known) && slices.EqualFunc(a.Batches, b.Batches, sameBatch)
}

func sameBatch(a, b api.Batch) bool {
	return a.Number == b.Number && a.Day == b.Day && slices.Equal(a.Payments, b.Payments)
}

// crowd is a queue in which so many payments wait, and so many warrants are known.
func crowd(waiting, known int) api.Queue {
	var q api.Queue
	for i := range waiting {
		q.Waiting = append(q.Waiting, paymentOf(i+1, 10))
	}
	for i := range known {
		q.Known = append(q.Known, i+1)
	}
	return q
}

// sent is a queue with so many batches of the warrant 1, and one payment that waits.
func sent(batches int) api.Queue {
	q := api.Queue{Waiting: []api.Payment{paymentOf(2, 0)}, Known: []int{1, 2}}
	for i := range batches {
		q.Batches = append(q.Batches, batchOf(i+1, 7, paymentOf(1, 0)))
	}
	return q
}

// P25.1

func TestPayment(t *testing.T) {
	good := api.Payment{Warrant: 1, Payee: 1, Amount: 1, Due: 0, Sub: 1}
	large := api.Payment{Warrant: mostNumber, Payee: mostNumber, Amount: mostAmount, Due: lastDay - 10, Sub: 1000}
	for i, p := range []api.Payment{good, large, paymentOf(5, 5)} {
		if !Payment(p) {
			t.Errorf("%d: %v", i, p)
		}
	}
	for i, change := range []func(p *api.Payment){
		func(p *api.Payment) { p.Warrant = 0 }, func(p *api.Payment) { p.Warrant = mostNumber + 1 },
		func(p *api.Payment) { p.Payee = 0 }, func(p *api.Payment) { p.Payee = mostNumber + 1 },
		func(p *api.Payment) { p.Amount = 0 }, func(p *api.Payment) { p.Amount = mostAmount + 1 },
		func(p *api.Payment) { p.Due = -1 }, func(p *api.Payment) { p.Due = lastDay - 9 },
		func(p *api.Payment) { p.Sub = 0 }, func(p *api.Payment) { p.Sub = 1001 },
		func(p *api.Payment) { *p = api.Payment{} }, func(p *api.Payment) { p.Amount = math.MinInt }, func(p *api.Payment) { p.Due = math.MaxInt },
	} {
		p := good
		change(&p)
		if Payment(p) {
			t.Errorf("%d: %v", i, p)
		}
		if got, e := Add(example(), p); e != api.ErrPayment || !same(got, api.Queue{}) {
			t.Errorf("%d, Add: %v, error %d", i, got, e)
		}
		if got, e := Again(example(), p); e != api.ErrPayment || !same(got, api.Queue{}) {
			t.Errorf("%d, Again: %v, error %d", i, got, e)
		}
	}
}

// changes are queues that are not right, with the error of Check.
func changes() map[string]struct {
	q    api.Queue
	want api.Errno
} {
	type row = struct {
		q    api.Queue
		want api.Errno
	}
	bad := func(change func(q *api.Queue)) row {
		q := example()
		change(&q)
		return row{q, api.ErrPayment}
	}
	return map[string]row{
		"101 that wait":                       {crowd(mostWaiting+1, mostWarrants), api.ErrLimit},
		"201 known":                           {crowd(0, mostWarrants+1), api.ErrLimit},
		"201 batches":                         {sent(mostWarrants + 1), api.ErrLimit},
		"101 that wait, and nothing is known": {crowd(mostWaiting+1, 0), api.ErrLimit},
		"a payment that waits not valid":      bad(func(q *api.Queue) { q.Waiting[0].Amount = 0 }),
		"due on days that fall":               bad(func(q *api.Queue) { q.Waiting[0].Due = 15 }),
		"warrants that fall on a day":         bad(func(q *api.Queue) { q.Waiting[1], q.Waiting[2] = q.Waiting[2], q.Waiting[1] }),
		"a payment twice":                     bad(func(q *api.Queue) { q.Waiting[2] = q.Waiting[1] }),
		"a warrant twice on two days":         bad(func(q *api.Queue) { q.Waiting[2] = paymentOf(4, 15) }),
		"what waits is not known":             bad(func(q *api.Queue) { q.Waiting[1].Warrant = 5 }),
		"a known warrant twice":               bad(func(q *api.Queue) { q.Known[5] = 6 }),
		"known warrants that fall":            bad(func(q *api.Queue) { q.Known[4], q.Known[5] = 8, 6 }),
		"the warrant 0 known":                 bad(func(q *api.Queue) { q.Known = append([]int{0}, q.Known...) }),
		"too large a warrant known":           bad(func(q *api.Queue) { q.Known[5] = mostNumber + 1 }),
		"a batch with the number 0":           bad(func(q *api.Queue) { q.Batches[0].Number = 0 }),
		"a batch with a number twice":         bad(func(q *api.Queue) { q.Batches[1].Number = 1 }),
		"a batch left out":                    bad(func(q *api.Queue) { q.Batches = q.Batches[1:] }),
		"a batch on the day 5":                bad(func(q *api.Queue) { q.Batches[0].Day = 5 }),
		"a batch on the day 6":                bad(func(q *api.Queue) { q.Batches[0].Day = 6 }),
		"a batch on a day below 0":            bad(func(q *api.Queue) { q.Batches[0].Day = -1 }),
		"a batch on too late a day":           bad(func(q *api.Queue) { q.Batches[1].Day = lastDay + 1 }),
		"a batch on a day that falls":         bad(func(q *api.Queue) { q.Batches[1].Day = 4 }),
		"a batch without payments":            bad(func(q *api.Queue) { q.Batches[1].Payments = nil }),
		"a batch of 11":                       bad(func(q *api.Queue) { *q = crowd(0, 20); q.Batches = []api.Batch{batchOf(1, 7, crowd(11, 0).Waiting...)} }),
		"a payment in a batch not valid":      bad(func(q *api.Queue) { q.Batches[1].Payments[0].Sub = 0 }),
		"a batch out of order":                bad(func(q *api.Queue) { q.Batches[0] = batchOf(1, 7, paymentOf(1, 5), paymentOf(3, 0)) }),
		"a payment in a batch twice":          bad(func(q *api.Queue) { q.Batches[0] = batchOf(1, 7, paymentOf(3, 0), paymentOf(3, 0)) }),
		"a warrant in a batch twice":          bad(func(q *api.Queue) { q.Batches[0] = batchOf(1, 7, paymentOf(3, 0), paymentOf(3, 1)) }),
		"what is in a batch is not known":     bad(func(q *api.Queue) { q.Batches[1].Payments[0].Warrant = 7 }),
	}
}

func TestCheck(t *testing.T) {
	for name, c := range changes() {
		if e := Check(c.q); e != c.want {
			t.Errorf("%s: error %d, not %d", name, e, c.want)
		}
		for _, p := range []api.Payment{{}, paymentOf(9, 9)} {
			if got, e := Add(c.q, p); e != c.want || !same(got, api.Queue{}) {
				t.Errorf("%s, Add: %v, error %d", name, got, e)
			}
			if got, e := Again(c.q, p); e != c.want || !same(got, api.Queue{}) {
				t.Errorf("%s, Again: %v, error %d", name, got, e)
			}
			if got, e := Drop(c.q, p.Warrant); e != c.want || !same(got, api.Queue{}) {
				t.Errorf("%s, Drop: %v, error %d", name, got, e)
			}
			if got, b, e := Take(c.q, p.Warrant-3, nil); e != c.want || !same(got, api.Queue{}) || !sameBatch(b, api.Batch{}) {
				t.Errorf("%s, Take: %v, %v, error %d", name, got, b, e)
			}
		}
		if got := Ready(c.q, lastDay); len(got) > 0 {
			t.Errorf("%s: %v is ready", name, got)
		}
	}
	last := example()
	last.Batches[1].Day = lastDay - 2
	first := example()
	first.Batches[0].Day = 0
	ten := crowd(0, 20)
	ten.Batches = []api.Batch{batchOf(1, 7, crowd(10, 0).Waiting...)}
	for name, q := range map[string]api.Queue{"the example": example(), "nothing": {}, "100 that wait": crowd(mostWaiting, mostWarrants), "200 batches": sent(mostWarrants), "the last business day": last, "the first day": first, "a batch of 10": ten, "known alone": {Known: []int{1, mostNumber}}} {
		if e := Check(q); e != api.OK {
			t.Errorf("%s: error %d", name, e)
		}
	}
}

func TestSum(t *testing.T) {
	for _, c := range []struct {
		l    []api.Payment
		want int
	}{{nil, 0}, {[]api.Payment{{Amount: 5}, {Amount: -7}, {Amount: 100}}, 98}, {[]api.Payment{{Amount: math.MaxInt}, {Amount: 1}}, math.MinInt}} {
		if got := Sum(c.l); got != c.want {
			t.Errorf("%v: %d", c.l, got)
		}
	}
}

// P25.2

func TestAddAgainAndDrop(t *testing.T) {
	for _, c := range []struct {
		p     api.Payment
		place int // among those that wait
		known []int
	}{
		{paymentOf(5, 9), 0, []int{1, 2, 3, 4, 5, 6, 8}}, {paymentOf(5, 10), 1, []int{1, 2, 3, 4, 5, 6, 8}}, {paymentOf(5, 14), 2, []int{1, 2, 3, 4, 5, 6, 8}},
		{paymentOf(9, 14), 3, []int{1, 2, 3, 4, 6, 8, 9}}, {paymentOf(7, lastDay-10), 3, []int{1, 2, 3, 4, 6, 7, 8}},
	} {
		want := example()
		want.Waiting = slices.Insert(want.Waiting, c.place, c.p)
		want.Known = c.known
		if got, e := Add(example(), c.p); e != api.OK || !same(got, want) {
			t.Errorf("%v: %v, error %d, not %v", c.p, got, e, want)
		}
	}
	for _, c := range []struct {
		p     api.Payment
		place int
	}{{paymentOf(1, 9), 0}, {paymentOf(3, 14), 2}, {paymentOf(8, 14), 3}, {api.Payment{Warrant: 3, Payee: 9, Amount: 1, Due: 11, Sub: 7}, 1}} {
		want := example()
		want.Waiting = slices.Insert(want.Waiting, c.place, c.p)
		if got, e := Again(example(), c.p); e != api.OK || !same(got, want) {
			t.Errorf("%v again: %v, error %d, not %v", c.p, got, e, want)
		}
	}
	for i, warrant := range []int{4, 2, 6} {
		want := example()
		want.Waiting = slices.Delete(want.Waiting, i, i+1)
		if got, e := Drop(example(), warrant); e != api.OK || !same(got, want) {
			t.Errorf("%d: %v, error %d, not %v", warrant, got, e, want)
		}
	}
}

func TestErrorsOfAddAgainAndDrop(t *testing.T) {
	for _, c := range []struct {
		name       string
		q          api.Queue
		p          api.Payment
		add, again api.Errno
	}{
		{"waits", example(), paymentOf(2, 14), api.ErrKnown, api.ErrKnown},
		{"waits on another day", example(), paymentOf(2, 3), api.ErrKnown, api.ErrKnown},
		{"was sent", example(), paymentOf(1, 14), api.ErrKnown, api.OK},
		{"was sent, and waits again", example(), paymentOf(6, 30), api.ErrKnown, api.ErrKnown},
		{"was taken back", example(), paymentOf(8, 14), api.ErrKnown, api.OK},
		{"not known", example(), paymentOf(5, 14), api.OK, api.ErrUnknown},
		{"not valid, but known", example(), api.Payment{Warrant: 1}, api.ErrPayment, api.ErrPayment},
		{"99 wait", crowd(mostWaiting-1, mostWaiting), paymentOf(101, 14), api.OK, api.ErrUnknown},
		{"99 wait, known", crowd(mostWaiting-1, mostWaiting), paymentOf(100, 14), api.ErrKnown, api.OK},
		{"100 wait", crowd(mostWaiting, mostWaiting), paymentOf(101, 14), api.ErrLimit, api.ErrUnknown},
		{"100 wait, known", crowd(mostWaiting, mostWaiting+1), paymentOf(101, 14), api.ErrKnown, api.ErrLimit},
		{"100 wait, it too", crowd(mostWaiting, mostWaiting), paymentOf(100, 14), api.ErrKnown, api.ErrKnown},
		{"199 known", crowd(0, mostWarrants-1), paymentOf(200, 14), api.OK, api.ErrUnknown},
		{"200 known", crowd(0, mostWarrants), paymentOf(201, 14), api.ErrLimit, api.ErrUnknown},
		{"200 known, and it", crowd(0, mostWarrants), paymentOf(200, 14), api.ErrKnown, api.OK},
	} {
		kept := fmt.Sprint(c.q)
		if got, e := Add(c.q, c.p); e != c.add || same(got, api.Queue{}) != (e != api.OK) {
			t.Errorf("%s, Add: %v, error %d, not %d", c.name, got, e, c.add)
		}
		if got, e := Again(c.q, c.p); e != c.again || same(got, api.Queue{}) != (e != api.OK) {
			t.Errorf("%s, Again: %v, error %d, not %d", c.name, got, e, c.again)
		}
		if kept != fmt.Sprint(c.q) {
			t.Errorf("%s: the queue was changed", c.name)
		}
	}
	for _, warrant := range []int{1, 3, 5, 8, 0, -4, math.MaxInt} {
		if got, e := Drop(example(), warrant); e != api.ErrUnknown || !same(got, api.Queue{}) {
			t.Errorf("%d: %v, error %d", warrant, got, e)
		}
	}
}

// P25.3

func TestReady(t *testing.T) {
	for day, want := range map[int][]int{math.MinInt: nil, 0: nil, 9: nil, 10: {4}, 13: {4}, 14: {4, 2, 6}, math.MaxInt: {4, 2, 6}} {
		if got := warrants(Ready(example(), day)); !slices.Equal(got, want) {
			t.Errorf("day %d: %v, not %v", day, got, want)
		}
	}
}

func TestTake(t *testing.T) {
	for _, c := range []struct {
		day       int
		wanted    []int
		sent, now []int // the places in the example
	}{
		{10, []int{4}, []int{0}, []int{1, 2}}, {14, []int{2}, []int{1}, []int{0, 2}}, {14, []int{6, 4}, []int{0, 2}, []int{1}}, {14, []int{6, 2, 4}, []int{0, 1, 2}, nil}, {lastDay - 2, []int{4, 2}, []int{0, 1}, []int{2}},
	} {
		want, batch := example(), batchOf(3, c.day)
		for _, i := range c.sent {
			batch.Payments = append(batch.Payments, want.Waiting[i])
		}
		var now []api.Payment
		for _, i := range c.now {
			now = append(now, want.Waiting[i])
		}
		want.Waiting, want.Batches = now, append(want.Batches, batch)
		kept := slices.Clone(c.wanted)
		q := example()
		got, b, e := Take(q, c.day, c.wanted)
		if e != api.OK || !same(got, want) || !sameBatch(b, batch) || Check(got) != api.OK {
			t.Errorf("%v on the day %d: %v, %v, error %d", c.wanted, c.day, got, b, e)
		}
		b.Payments[0].Amount = -1
		if !same(got, want) || !same(q, example()) || !slices.Equal(kept, c.wanted) {
			t.Errorf("%v on the day %d: memory is shared", c.wanted, c.day)
		}
	}
	first, b, e := Take(api.Queue{Waiting: []api.Payment{paymentOf(4, 0)}, Known: []int{4}}, 0, []int{4})
	if e != api.OK || b.Number != 1 || len(first.Waiting) != 0 || len(first.Batches) != 1 {
		t.Errorf("%v, %v, error %d", first, b, e)
	}
}

func TestErrorsOfTake(t *testing.T) {
	eleven := []int{1, 2, 3, 4, 5, 6, 7, 8, 9, 10, 11}
	for _, c := range []struct {
		name   string
		q      api.Queue
		day    int
		wanted []int
		want   api.Errno
	}{
		{"no business day", example(), 12, []int{4}, api.ErrHoliday},
		{"none either", example(), 13, []int{4}, api.ErrHoliday},
		{"a day below 0", example(), -7, []int{4}, api.ErrHoliday},
		{"a day too late", example(), lastDay + 1, []int{4}, api.ErrHoliday},
		{"no business day, and too early", example(), 5, nil, api.ErrHoliday},
		{"earlier than the last batch", example(), 4, []int{4}, api.ErrOrder},
		{"earlier, and no warrants", example(), 4, nil, api.ErrOrder},
		{"no warrants", example(), 14, nil, api.ErrNone},
		{"no warrants, and 200 batches", sent(mostWarrants), 7, nil, api.ErrNone},
		{"10 warrants", crowd(20, 20), 10, eleven[:mostBatch], api.OK},
		{"11 warrants", crowd(20, 20), 10, eleven, api.ErrLimit},
		{"11 unknown warrants", crowd(0, 20), 10, eleven, api.ErrLimit},
		{"199 batches", sent(mostWarrants - 1), 7, []int{2}, api.OK},
		{"200 batches", sent(mostWarrants), 7, []int{2}, api.ErrLimit},
		{"200 batches, and unknown", sent(mostWarrants), 7, []int{1}, api.ErrLimit},
		{"not due", example(), 11, []int{4, 2}, api.ErrUnknown},
		{"not waiting", example(), 14, []int{1}, api.ErrUnknown},
		{"taken back", example(), 14, []int{4, 8}, api.ErrUnknown},
		{"not known", example(), 14, []int{5}, api.ErrUnknown},
		{"named twice", example(), 14, []int{4, 4}, api.ErrUnknown},
		{"named twice, not side by side", example(), 14, []int{4, 2, 4}, api.ErrUnknown},
		{"the day of the last batch", sent(1), 7, []int{2}, api.OK},
	} {
		kept := fmt.Sprint(c.q)
		got, b, e := Take(c.q, c.day, c.wanted)
		if e != c.want || same(got, api.Queue{}) != (e != api.OK) || sameBatch(b, api.Batch{}) != (e != api.OK) {
			t.Errorf("%s: %v, %v, error %d, not %d", c.name, got, b, e, c.want)
		}
		if kept != fmt.Sprint(c.q) {
			t.Errorf("%s: the queue was changed", c.name)
		}
	}
}

// The consequences, and P1

func TestExample(t *testing.T) {
	q, _ := Add(api.Queue{}, paymentOf(9, 5))
	if got := Ready(q, 5); len(got) != 1 {
		t.Errorf("%v is ready", got)
	}
	if _, _, e := Take(q, 5, []int{9}); e != api.ErrHoliday {
		t.Errorf("error %d", e)
	}
	if q, b, e := Take(q, 7, []int{9}); e != api.OK || len(q.Waiting) != 0 || b.Day != 7 || Sum(b.Payments) != 45 {
		t.Errorf("%v, %v, error %d", q, b, e)
	}
}

func TestRandomQueues(t *testing.T) {
	r := rand.New(rand.NewSource(251))
	for range 100 {
		var q api.Queue
		waiting, known := map[int]int{}, map[int]bool{}
		day := 0
		for range 150 {
			warrant, due := 1+r.Intn(25), r.Intn(60)
			_, waits := waiting[warrant]
			next, e := q, api.OK
			wanted := true
			switch r.Intn(4) {
			case 0:
				next, e = Add(q, paymentOf(warrant, due))
				wanted = !known[warrant]
				if e == api.OK {
					known[warrant], waiting[warrant] = true, due
				}
			case 1:
				next, e = Again(q, paymentOf(warrant, due))
				wanted = known[warrant] && !waits
				if e == api.OK {
					waiting[warrant] = due
				}
			case 2:
				next, e = Drop(q, warrant)
				wanted = waits
				delete(waiting, warrant)
			case 3:
				today := day + r.Intn(4)
				next, _, e = Take(q, today, []int{warrant})
				wanted = waits && waiting[warrant] <= today && today%7 < 5
				if e == api.OK {
					day = today
					delete(waiting, warrant)
				}
			}
			if (e == api.OK) != wanted {
				t.Fatalf("%d: error %d", warrant, e)
			}
			if e == api.OK {
				q = next
			}
			if Check(q) != api.OK || len(q.Waiting) != len(waiting) || len(q.Known) != len(known) {
				t.Fatalf("%v, not %v of %v", q, waiting, known)
			}
			for _, p := range q.Waiting {
				if due, ok := waiting[p.Warrant]; !ok || due != p.Due {
					t.Fatalf("%v waits", p)
				}
			}
		}
	}
}

func TestResultsAreNewMemory(t *testing.T) {
	q := example()
	a, _ := Add(q, paymentOf(5, 9))
	b, _ := Again(q, paymentOf(1, 9))
	c, _ := Drop(q, 4)
	d, _, _ := Take(q, 14, []int{4})
	for _, x := range []api.Queue{a, b, c, d} {
		x.Waiting[0].Amount, x.Known[0], x.Batches[0].Day, x.Batches[0].Payments[0].Amount = -1, -1, -1, -1
	}
	Ready(q, 14)[0].Amount = -1
	if !same(q, example()) {
		t.Error("memory is shared")
	}
}
