package control

import (
	"math"
	"math/rand"
	"slices"
	"testing"

	"treasury/api"
	"treasury/office"
	"treasury/warrant"
)

// scene is all that a control knows.
type scene struct {
	keys []uint64
	w    api.Warrant
	o    api.Office
	paid []api.Warrant
	p    api.Pot
	day  int
}

// control returns the errors of all checks, whose kinds must be in their order.
func (s scene) control(t *testing.T) []api.Errno {
	t.Helper()
	var errs []api.Errno
	for i, c := range Control(s.keys, s.w, s.o, s.paid, s.p, s.day) {
		if c.Kind != i+1 {
			t.Errorf("the check %d has the kind %d", i, c.Kind)
		}
		errs = append(errs, c.Errs)
	}
	return errs
}

var keys = []uint64{11, 12, 21, 22, 31, 32}

// sign gives a warrant both signatures.
func (s *scene) sign(t *testing.T) {
	t.Helper()
	for _, second := range []bool{false, true} {
		w, e := warrant.Sign(keys, s.w, second)
		if e != api.OK {
			t.Fatalf("%v: error %d", s.w, e)
		}
		s.w = w
	}
}

// officeAfter returns an office after operations, which must be possible.
func officeAfter(t *testing.T, o api.Office, ops ...api.Op) api.Office {
	t.Helper()
	for i, op := range ops {
		next, e := office.Do(o, op)
		if e != api.OK {
			t.Fatalf("operation %d: error %d", i, e)
		}
		o = next
	}
	return o
}

// example is a control that finds nothing wrong: office 2 has ordered a payment of 250 on the day 4400, due on 4431, the first business day behind 4428.
func example(t *testing.T) scene {
	t.Helper()
	o := officeAfter(t, api.Office{Number: 2},
		api.Op{Kind: api.OpHear, Code: "1.1", Year: 12, Granted: 1000}, api.Op{Kind: api.OpHear, Code: "3", Year: 12, Granted: 100},
		api.Op{Kind: api.OpReserve, Code: "3", Year: 12, Day: 4330, Amount: 60}, api.Op{Kind: api.OpReserve, Code: "1.1", Year: 12, Day: 4331, Amount: 700},
		api.Op{Kind: api.OpCommit, Of: 1, Day: 4336, Amount: 50, Payee: 6, Due: 4100}, api.Op{Kind: api.OpCommit, Of: 2, Day: 4337, Amount: 400, Payee: 9, Due: 4431},
		api.Op{Kind: api.OpVerify, Of: 1, Day: 4340, Amount: 40}, api.Op{Kind: api.OpVerify, Of: 2, Day: 4341, Amount: 250}, api.Op{Kind: api.OpVerify, Of: 2, Day: 4341, Amount: 100},
		api.Op{Kind: api.OpOrder, Of: 2, Day: 4342}, api.Op{Kind: api.OpReturned, Of: 2}, api.Op{Kind: api.OpOrder, Of: 1, Day: 4343}, api.Op{Kind: api.OpOrder, Of: 2, Day: 4400})
	w, e := warrant.Make(o, 3, 7)
	if e != api.OK {
		t.Fatalf("error %d", e)
	}
	s := scene{keys: keys, w: w, o: o, day: 4431, p: api.Pot{Code: "1.1", Year: 12, Total: 800, Granted: []int{5, 800}, Heard: []int{5, 100}, Asked: []int{0, 0}, Used: []int{0, 0}}}
	s.paid = []api.Warrant{paidOf(3, 2, 1, 1), paidOf(9, 1, 2, 2)}
	s.sign(t)
	return s
}

// paidOf returns a warrant that is paid.
func paidOf(number, office, verification, attempt int) api.Warrant {
	return api.Warrant{Number: number, Office: office, Code: "3", Year: 12, Reservation: 1, Commitment: 1, Verification: verification, Attempt: attempt, Amount: 40, Payee: 6, Day: 4343, Due: 4100}
}

// P20.1

func TestControl(t *testing.T) {
	const (
		invalid, basis, funds  = api.ErrInvalid, api.ErrBasis, api.ErrFunds
		year, unknown, blocked = api.ErrYear, api.ErrUnknown, api.ErrBlocked
	)
	resigned := func(change func(s *scene)) func(s *scene) {
		return func(s *scene) { change(s); s.sign(t) }
	}
	for _, c := range []struct {
		name   string
		change func(s *scene)
		want   [8]api.Errno
	}{
		{"as it is", func(s *scene) {}, [8]api.Errno{}},
		{"nothing", func(s *scene) { *s = scene{} }, [8]api.Errno{invalid, invalid, invalid, invalid, invalid, invalid, invalid, invalid}},
		{"not plain", func(s *scene) { s.w.Payee = 0 }, [8]api.Errno{invalid, invalid, invalid, invalid, invalid, invalid, invalid, invalid}},

		{"no keys", func(s *scene) { s.keys = nil }, [8]api.Errno{1: unknown}},
		{"a key less", func(s *scene) { s.keys = keys[:3] }, [8]api.Errno{1: unknown}},
		{"another first signature", func(s *scene) { s.w.First++ }, [8]api.Errno{1: api.ErrSigned}},
		{"another second signature", func(s *scene) { s.w.Second++ }, [8]api.Errno{1: api.ErrSigned}},

		{"an office that is not valid", func(s *scene) { s.o.Rights = nil }, [8]api.Errno{2: invalid, 3: basis}},
		{"an office with another number", func(s *scene) { s.o.Number = 1 }, [8]api.Errno{2: basis, 3: basis}},
		{"no office", func(s *scene) { s.o = api.Office{} }, [8]api.Errno{2: invalid, 3: basis}},
		{"no book", func(s *scene) { s.o.Book = api.Book{} }, [8]api.Errno{2: basis, 3: basis}},
		{"an attempt that came back", resigned(func(s *scene) { s.w.Attempt, s.w.Day = 1, 4342 }), [8]api.Errno{2: basis, 3: basis}},
		{"an attempt that was not made", resigned(func(s *scene) { s.w.Attempt = 3 }), [8]api.Errno{2: basis, 3: basis}},
		{"an order that came back", func(s *scene) { s.o.Book.Orders[2].Back = true }, [8]api.Errno{2: basis, 3: basis}},
		{"a verification without an order", resigned(func(s *scene) { s.w.Verification, s.w.Attempt = 3, 1 }), [8]api.Errno{2: basis, 3: basis}},
		{"a verification that is not there", resigned(func(s *scene) { s.w.Verification = 4 }), [8]api.Errno{2: basis, 3: basis}},
		{"another commitment", resigned(func(s *scene) { s.w.Commitment = 1 }), [8]api.Errno{2: basis, 3: basis}},
		{"a commitment that is not there", resigned(func(s *scene) { s.w.Commitment = 3 }), [8]api.Errno{2: basis, 3: basis}},
		{"another reservation", resigned(func(s *scene) { s.w.Reservation = 1 }), [8]api.Errno{2: basis, 3: basis}},
		{"a reservation that is not there", resigned(func(s *scene) { s.w.Reservation = 9 }), [8]api.Errno{2: basis, 3: basis}},

		{"1 more", resigned(func(s *scene) { s.w.Amount++ }), [8]api.Errno{3: funds}},
		{"1 less", resigned(func(s *scene) { s.w.Amount-- }), [8]api.Errno{3: funds}},
		{"another payee", resigned(func(s *scene) { s.w.Payee = 6 }), [8]api.Errno{3: funds}},
		{"due earlier", resigned(func(s *scene) { s.w.Due-- }), [8]api.Errno{3: funds}},
		{"another day", resigned(func(s *scene) { s.w.Day-- }), [8]api.Errno{3: funds}},
		{"another code", resigned(func(s *scene) { s.w.Code, s.p.Code = "3", "3" }), [8]api.Errno{3: funds}},
		{"another year", resigned(func(s *scene) { s.w.Year, s.p.Year = 13, 13 }), [8]api.Errno{3: funds}},
		{"1 more, not signed again", func(s *scene) { s.w.Amount++ }, [8]api.Errno{1: api.ErrSigned, 3: funds}},

		{"the number paid", func(s *scene) { s.paid = append(s.paid, paidOf(7, 1, 1, 1)) }, [8]api.Errno{4: api.ErrDuplicate}},
		{"the verification paid", func(s *scene) { s.paid = append(s.paid, paidOf(8, 2, 2, 2)) }, [8]api.Errno{4: api.ErrRepeated}},
		{"the verification paid at another attempt", func(s *scene) { s.paid = append(s.paid, paidOf(8, 2, 2, 1)) }, [8]api.Errno{4: api.ErrRepeated}},
		{"the verification paid ahead of the number", func(s *scene) { s.paid = []api.Warrant{paidOf(8, 2, 2, 1), paidOf(7, 1, 1, 1)} }, [8]api.Errno{4: api.ErrDuplicate}},
		{"paid itself", func(s *scene) { s.paid = []api.Warrant{s.w} }, [8]api.Errno{4: api.ErrDuplicate}},
		{"the verification of another office paid", func(s *scene) { s.paid = append(s.paid, paidOf(10, 3, 2, 2)) }, [8]api.Errno{}},
		{"nothing paid", func(s *scene) { s.paid = nil }, [8]api.Errno{}},
		{"what is not plain paid", func(s *scene) { s.paid = []api.Warrant{{Office: 2, Verification: 2}} }, [8]api.Errno{4: api.ErrRepeated}},

		{"the last day of the year behind", func(s *scene) { s.day = 5039 }, [8]api.Errno{}},
		{"the day behind it", func(s *scene) { s.day = 5040 }, [8]api.Errno{5: year}},
		{"the last of all days", func(s *scene) { s.day = 36000 }, [8]api.Errno{5: year}},
		{"what is no day", func(s *scene) { s.day = 36001 }, [8]api.Errno{5: year}},
		{"the largest number as a day", func(s *scene) { s.day = math.MaxInt }, [8]api.Errno{5: year}},
		{"before the order", func(s *scene) { s.day = 4399 }, [8]api.Errno{5: year, 6: blocked}},
		{"a day below 0", func(s *scene) { s.day = -1 }, [8]api.Errno{5: year, 6: blocked}},
		{"the least number as a day", func(s *scene) { s.day = math.MinInt }, [8]api.Errno{5: year, 6: blocked}},

		{"the day of the order", func(s *scene) { s.day = 4400 }, [8]api.Errno{6: blocked}},
		{"the day before it is due", func(s *scene) { s.day = 4430 }, [8]api.Errno{6: blocked}},

		{"the pot of another code", func(s *scene) { s.p.Code = "3" }, [8]api.Errno{7: unknown}},
		{"the pot of another year", func(s *scene) { s.p.Year = 13 }, [8]api.Errno{7: unknown}},
		{"no pot", func(s *scene) { s.p = api.Pot{} }, [8]api.Errno{7: unknown}},
		{"a pot of one office", func(s *scene) { s.p.Granted, s.p.Heard = []int{800}, []int{100} }, [8]api.Errno{7: unknown}},
		{"granted to one office", func(s *scene) { s.p.Granted = []int{800} }, [8]api.Errno{7: unknown}},
		{"heard of one office", func(s *scene) { s.p.Heard = nil }, [8]api.Errno{7: unknown}},
		{"less granted than used", func(s *scene) { s.p.Granted[1]-- }, [8]api.Errno{7: funds}},
		{"more heard", func(s *scene) { s.p.Heard[1]++ }, [8]api.Errno{7: funds}},
		{"more granted", func(s *scene) { s.p.Granted[1]++ }, [8]api.Errno{}},
		{"what is used of another leaf", func(s *scene) { s.o.Rights[1].Granted, s.o.Book.Reservations[0].Amount = 5000, 5000 }, [8]api.Errno{}},
	} {
		s := example(t)
		c.change(&s)
		got := s.control(t)
		if !slices.Equal(got, c.want[:]) {
			t.Errorf("%s: %v, not %v", c.name, got, c.want)
		}
		first := api.OK
		for _, e := range c.want {
			if first == api.OK {
				first = e
			}
		}
		if e := First(Control(s.keys, s.w, s.o, s.paid, s.p, s.day)); e != first {
			t.Errorf("%s: the first error is %d, not %d", c.name, e, first)
		}
		paid, e := Pays(s.keys, s.w, s.o, s.paid, s.p, s.day)
		if first != api.OK && (e != first || paid != nil) {
			t.Errorf("%s: paid %v, error %d, not %d", c.name, paid, e, first)
		}
		if first == api.OK && (e != api.OK || len(paid) != len(s.paid)+1) {
			t.Errorf("%s: paid %v, error %d", c.name, paid, e)
		}
	}
}

func TestTheFirstOrder(t *testing.T) {
	s := example(t)
	s.o = officeAfter(t, api.Office{Number: 2}, api.Op{Kind: api.OpHear, Code: "1.1", Year: 12, Granted: 700}, api.Op{Kind: api.OpReserve, Code: "1.1", Year: 12, Day: 4331, Amount: 700},
		api.Op{Kind: api.OpCommit, Of: 1, Day: 4337, Amount: 400, Payee: 9, Due: 4431}, api.Op{Kind: api.OpVerify, Of: 1, Day: 4341, Amount: 250}, api.Op{Kind: api.OpOrder, Of: 1, Day: 4342})
	s.w, _ = warrant.Make(s.o, 1, 7)
	s.paid = nil
	s.sign(t)
	if got := s.control(t); !slices.Equal(got, make([]api.Errno, 8)) {
		t.Errorf("%v", got)
	}
}

func TestDueOnAHoliday(t *testing.T) {
	for due := 4421; due < 4435; due++ {
		first := due
		for first%7 > 4 {
			first++
		}
		s := example(t)
		s.o.Book.Commitments[1].Due, s.w.Due = due, due
		s.sign(t)
		for day, want := range map[int]api.Errno{first - 1: api.ErrBlocked, first: api.OK, first + 1: api.OK} {
			s.day = day
			if got := s.control(t); got[6] != want || got[3] != api.OK || got[5] != api.OK {
				t.Errorf("due on %d, day %d: %v", due, day, got)
			}
		}
	}
}

func TestTheLastYear(t *testing.T) {
	s := example(t)
	s.w.Year, s.w.Day, s.w.Due = 99, 35990, 35990
	s.sign(t)
	for day, want := range map[int]api.Errno{35989: api.ErrYear, 35990: api.OK, 36000: api.OK, 36001: api.ErrYear} {
		s.day = day
		if got := s.control(t); got[5] != want {
			t.Errorf("day %d: %v", day, got)
		}
	}
}

func TestFirst(t *testing.T) {
	for _, c := range []struct {
		errs []api.Errno
		want api.Errno
	}{{nil, 0}, {[]api.Errno{0, 0}, 0}, {[]api.Errno{0, 5, 7}, 5}, {[]api.Errno{-3, 5}, -3}, {[]api.Errno{0, 0, 99}, 99}} {
		var l []api.Check
		for _, e := range c.errs {
			l = append(l, api.Check{Errs: e})
		}
		if got := First(l); got != c.want {
			t.Errorf("%v: %d, not %d", c.errs, got, c.want)
		}
	}
}

// P20.2

func TestPays(t *testing.T) {
	s := example(t)
	got, e := Pays(s.keys, s.w, s.o, s.paid, s.p, s.day)
	if want := []api.Warrant{s.paid[0], s.w, s.paid[1]}; e != api.OK || !slices.Equal(got, want) {
		t.Errorf("%v, error %d, not %v", got, e, want)
	}
	s.paid[0], s.paid[1] = s.paid[1], s.paid[0]
	if got, e := Pays(s.keys, s.w, s.o, s.paid, s.p, s.day); got != nil || e != api.ErrInvalid {
		t.Errorf("a list in another order: %v, error %d", got, e)
	}
	s.day = 4400
	if got, e := Pays(s.keys, s.w, s.o, s.paid, s.p, s.day); got != nil || e != api.ErrBlocked {
		t.Errorf("a list in another order, not due: %v, error %d", got, e)
	}
	s.day, s.paid = 4431, nil
	for i := range 200 {
		s.paid = append(s.paid, paidOf(100+i, 1, 1+i, 1))
	}
	if got, e := Pays(s.keys, s.w, s.o, s.paid, s.p, s.day); got != nil || e != api.ErrLimit {
		t.Errorf("200 are paid: %d, error %d", len(got), e)
	}
	if got, e := Pays(s.keys, s.w, s.o, s.paid[1:], s.p, s.day); len(got) != 200 || e != api.OK {
		t.Errorf("199 are paid: %d, error %d", len(got), e)
	}
}

func TestReturned(t *testing.T) {
	l := []api.Warrant{paidOf(3, 2, 1, 1), paidOf(5, 2, 2, 1), paidOf(9, 1, 2, 2)}
	for _, c := range []struct {
		number int
		want   []api.Warrant
	}{{3, l[1:]}, {5, []api.Warrant{l[0], l[2]}}, {9, l[:2]}} {
		kept := slices.Clone(l)
		got, e := Returned(l, c.number)
		if e != api.OK || !slices.Equal(got, c.want) {
			t.Errorf("%d: %v, error %d", c.number, got, e)
		}
		for i := range got {
			got[i].Number = -7
		}
		if !slices.Equal(l, kept) {
			t.Error("the list was changed")
		}
	}
	for _, number := range []int{0, 4, -3, math.MinInt, math.MaxInt} {
		if got, e := Returned(l, number); got != nil || e != api.ErrUnknown {
			t.Errorf("%d: %v, error %d", number, got, e)
		}
	}
	if got, e := Returned(nil, 3); got != nil || e != api.ErrUnknown {
		t.Errorf("of nothing: %v, error %d", got, e)
	}
	if got, e := Returned(l[:1], 3); len(got) != 0 || e != api.OK {
		t.Errorf("the only one: %v, error %d", got, e)
	}
}

// The consequences, and P1

func TestEveryVerificationIsPaidAtMostOnce(t *testing.T) {
	r := rand.New(rand.NewSource(201))
	paidAtAll, again := 0, 0
	for range 150 {
		s := example(t)
		s.paid, s.p.Granted[1] = nil, 2000
		made := []api.Warrant{}
		for range 60 {
			verification := 1 + r.Intn(3)
			switch r.Intn(5) {
			case 0:
				if o, e := office.Do(s.o, api.Op{Kind: api.OpOrder, Of: verification, Day: 4430}); e == api.OK {
					s.o = o
				}
			case 1:
				if w, e := warrant.Make(s.o, 1+r.Intn(len(s.o.Book.Orders)), 1+r.Intn(30)); e == api.OK {
					s.w = w
					s.sign(t)
					made = append(made, s.w)
				}
			case 2, 3:
				if len(made) == 0 {
					continue
				}
				s.w = made[r.Intn(len(made))]
				s.p.Code = s.w.Code
				if next, e := Pays(s.keys, s.w, s.o, s.paid, s.p, 4440); e == api.OK {
					s.paid = next
					paidAtAll++
					if s.w.Attempt > 2 {
						again++
					}
				}
			case 4:
				// A payment comes back: the office says so, and the treasury, too.
				if len(s.paid) == 0 {
					continue
				}
				w := s.paid[r.Intn(len(s.paid))]
				s.o = officeAfter(t, s.o, api.Op{Kind: api.OpReturned, Of: w.Verification})
				s.paid, _ = Returned(s.paid, w.Number)
			}
			checkPaid(t, s.paid)
		}
	}
	if paidAtAll < 300 || again < 30 {
		t.Errorf("%d were paid, %d of them at a later attempt", paidAtAll, again)
	}
}

// checkPaid fails if two paid warrants have the same number, or the same office and verification.
func checkPaid(t *testing.T, paid []api.Warrant) {
	t.Helper()
	numbers, basis := map[int]bool{}, map[[2]int]bool{}
	for _, w := range paid {
		if numbers[w.Number] || basis[[2]int{w.Office, w.Verification}] {
			t.Fatalf("paid twice: %v", paid)
		}
		numbers[w.Number], basis[[2]int{w.Office, w.Verification}] = true, true
	}
}

func TestArgumentsStayAsTheyAre(t *testing.T) {
	s := example(t)
	// A list with room behind it must not be grown in place.
	s.paid = append(s.paid, api.Warrant{})[:2]
	kept := example(t)
	Control(s.keys, s.w, s.o, s.paid, s.p, s.day)
	got, _ := Pays(s.keys, s.w, s.o, s.paid, s.p, s.day)
	for i := range got {
		got[i].Number = -7
	}
	if !slices.Equal(s.paid, kept.paid) || s.paid[:3][2] != (api.Warrant{}) || !office.Same(s.o, kept.o) || !slices.Equal(s.p.Granted, kept.p.Granted) || !slices.Equal(s.p.Heard, kept.p.Heard) || !slices.Equal(s.keys, kept.keys) {
		t.Error("an argument was changed")
	}
}
