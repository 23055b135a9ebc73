package office

import (
	"fmt"
	"math"
	"math/rand"
	"testing"

	"treasury/api"
	"treasury/commitment"
	"treasury/rights"
)

// example is a valid office: of the right to 1 in 12 it may use 90 and has used 80, of that to 2.1 in 13 it may use 20 and has used all.
func example(t *testing.T) api.Office {
	t.Helper()
	return api.Office{
		Number: 2,
		Rights: []api.Right{rightOf("1", 11, 5, 0, 0), rightOf("1", 12, 100, 30, 10), rightOf("2.1", 13, 20, 20, 0)},
		Book:   bookOf(t, reserveOf("1", 12, 4330, 60), reserveOf("2.1", 13, 4700, 20), reserveOf("1", 12, 4340, 30), opOf(api.OpRelease, 3, 0, 10), commitOf(1, 4335, 40, 7, 4400), opOf(api.OpVerify, 1, 4340, 25), opOf(api.OpOrder, 1, 4341, 0)),
	}
}

// P15.1

func TestValid(t *testing.T) {
	for _, c := range []struct {
		name   string
		change func(o *api.Office)
		want   bool
	}{
		{"as it is", func(o *api.Office) {}, true},
		{"nothing", func(o *api.Office) { *o = api.Office{Number: 1} }, true},
		{"no number", func(o *api.Office) { o.Number = 0 }, false},
		{"a number below 0", func(o *api.Office) { o.Number = -1 }, false},
		{"the last number", func(o *api.Office) { o.Number = mostOffices }, true},
		{"a number too large", func(o *api.Office) { o.Number = mostOffices + 1 }, false},
		{"all used", func(o *api.Office) { o.Rights[1].Returned = 20 }, true},
		{"more used than the right lets it", func(o *api.Office) { o.Rights[1].Returned = 21 }, false},
		{"less granted", func(o *api.Office) { o.Rights[1].Granted = 89 }, false},
		{"no right", func(o *api.Office) { o.Rights = nil }, false},
		{"no right to one of two", func(o *api.Office) { o.Rights = o.Rights[:2] }, false},
		{"no right in the year", func(o *api.Office) { o.Rights[2].Year = 12 }, false},
		{"no right to the code", func(o *api.Office) { o.Rights[2].Code = "2" }, false},
		{"a right to nothing of what is all given up", func(o *api.Office) { o.Rights[2].Granted = 0; o.Book.Reservations[1].Released = 20 }, true},
		{"no right to what is all given up", func(o *api.Office) { o.Rights = o.Rights[:2]; o.Book.Reservations[1].Released = 20 }, false},
		{"a right twice", func(o *api.Office) { o.Rights[0].Year = 12 }, false},
		{"rights in another order", func(o *api.Office) { o.Rights[0], o.Rights[1] = o.Rights[1], o.Rights[0] }, false},
		{"codes in another order", func(o *api.Office) { o.Rights[0].Code = "3" }, false},
		{"codes by their numbers", func(o *api.Office) { o.Rights = append(o.Rights, rightOf("10", 0, 0, 0, 0)) }, true},
		{"codes by their bytes", func(o *api.Office) { o.Rights = append(o.Rights, rightOf("10", 0, 0, 0, 0), rightOf("9", 0, 0, 0, 0)) }, false},
		{"a right that is not valid", func(o *api.Office) { o.Rights[0].Returned = 6 }, false},
		{"a right to no code", func(o *api.Office) { o.Rights[0].Code = "" }, false},
		{"a right in no year", func(o *api.Office) { o.Rights[0].Year = -1 }, false},
		{"a right to too much", func(o *api.Office) { o.Rights[0].Granted = mostTotal + 1 }, false},
		{"a right of which too much is asked", func(o *api.Office) { o.Rights[0].Asked = mostTotal + 1 }, false},
		{"a right of which more is asked than granted", func(o *api.Office) { o.Rights[0].Asked = mostTotal }, true},
		{"a book that is not valid", func(o *api.Office) { o.Book.Orders[0].Attempt = 2 }, false},
		{"a reservation that is not valid", func(o *api.Office) { o.Book.Reservations[0].Amount = 0 }, false},
	} {
		o := example(t)
		c.change(&o)
		if got := Valid(o); got != c.want || got != validOf(o) {
			t.Errorf("%s: %v", c.name, got)
		}
		if !c.want {
			invalid(t, c.name, o)
		}
	}
}

// invalid fails unless all functions refuse an office that is not valid.
func invalid(t *testing.T, name string, o api.Office) {
	t.Helper()
	for kind := range 11 {
		got, e := Do(o, api.Op{Kind: kind, Code: "1", Year: 12, Day: 4330, Of: 1, Amount: 1, Payee: 1})
		refused(t, fmt.Sprint(name, ", Do ", kind), got, e, api.ErrInvalid)
	}
	if op, ok := Answer(o, "1", 12); ok || op != (api.Op{}) {
		t.Errorf("%s: the answer is %v", name, op)
	}
	for _, code := range []string{"1", "x"} {
		if m, e := Report(o, code, 12); e != api.ErrInvalid || m != (api.Message{}) {
			t.Errorf("%s: the report is %v, error %d", name, m, e)
		}
	}
}

// manyRights returns an office with so many rights.
func manyRights(n int) api.Office {
	o := api.Office{Number: 1}
	for i := range n {
		o.Rights = append(o.Rights, rightOf(fmt.Sprint(1+i/2), 12+i%2, 10, 0, 0))
	}
	return o
}

func TestValidAtTheLimit(t *testing.T) {
	if !Valid(manyRights(mostPots)) {
		t.Error("60 rights")
	}
	o := manyRights(mostPots + 1)
	if Valid(o) {
		t.Error("61 rights")
	}
	invalid(t, "61 rights", o)
}

func TestNew(t *testing.T) {
	for number := 1; number <= mostOffices; number++ {
		o, e := New(number)
		is(t, "a new one", o, e, api.Office{Number: number})
		if !Valid(o) {
			t.Errorf("%d is not valid", number)
		}
	}
	for _, number := range []int{0, -1, mostOffices + 1, math.MinInt, math.MaxInt} {
		o, e := New(number)
		refused(t, fmt.Sprint(number), o, e, api.ErrRange)
	}
}

func TestRightAndUnused(t *testing.T) {
	o := example(t)
	for _, c := range []struct {
		code   string
		year   int
		want   api.Right
		unused int
	}{
		{"1", 12, rightOf("1", 12, 100, 30, 10), 10},
		{"1", 11, rightOf("1", 11, 5, 0, 0), 5},
		{"2.1", 13, rightOf("2.1", 13, 20, 20, 0), 0},
		{"2.1", 12, rightOf("2.1", 12, 0, 0, 0), 0},
		{"x", -7, rightOf("x", -7, 0, 0, 0), 0},
		{"", 0, rightOf("", 0, 0, 0, 0), 0},
	} {
		if got := Right(o, c.code, c.year); got != c.want {
			t.Errorf("the right to %q in %d: %v, not %v", c.code, c.year, got, c.want)
		}
		if got := Unused(o, c.code, c.year); got != c.unused {
			t.Errorf("unused of %q in %d: %d, not %d", c.code, c.year, got, c.unused)
		}
	}
}

func TestRightAndUnusedOfAnyOffice(t *testing.T) {
	o := api.Office{Rights: []api.Right{rightOf("x", -7, 5, 1, 9), rightOf("x", -7, 50, 1, 9)}, Book: example(t).Book}
	if got := Right(o, "x", -7); got != o.Rights[0] {
		t.Errorf("the first right: %v", got)
	}
	if got := Unused(o, "x", -7); got != -4 {
		t.Errorf("unused of x: %d", got)
	}
	if got := Unused(o, "1", 12); got != -80 {
		t.Errorf("unused without a right: %d", got)
	}
}

func TestSame(t *testing.T) {
	o := example(t)
	if !Same(o, cloneOf(o)) || !Same(api.Office{}, api.Office{Rights: []api.Right{}, Book: api.Book{Orders: []api.Order{}}}) {
		t.Error("what is the same is not")
	}
	for name, change := range map[string]func(o *api.Office){
		"the number":       func(o *api.Office) { o.Number++ },
		"a right":          func(o *api.Office) { o.Rights[2].Asked++ },
		"a right less":     func(o *api.Office) { o.Rights = o.Rights[:2] },
		"a reservation":    func(o *api.Office) { o.Book.Reservations[1].Day++ },
		"a commitment":     func(o *api.Office) { o.Book.Commitments[0].Due++ },
		"a verification":   func(o *api.Office) { o.Book.Verifications[0].Amount++ },
		"an order":         func(o *api.Office) { o.Book.Orders[0].Back = true },
		"no orders":        func(o *api.Office) { o.Book.Orders = nil },
		"no verifications": func(o *api.Office) { o.Book.Verifications = nil },
		"no commitments":   func(o *api.Office) { o.Book.Commitments = nil },
		"no reservations":  func(o *api.Office) { o.Book.Reservations = nil },
	} {
		x := cloneOf(o)
		change(&x)
		if Same(o, x) || Same(x, o) {
			t.Errorf("%s: the same", name)
		}
	}
}

// P15.2

func TestDo(t *testing.T) {
	o := example(t)
	for _, c := range []struct {
		name   string
		op     api.Op
		change func(o *api.Office)
	}{
		{"reserve", reserveOf("1", 12, 4679, 10), func(o *api.Office) {
			o.Book.Reservations = append(o.Book.Reservations, api.Reservation{Number: 4, Code: "1", Year: 12, Day: 4679, Amount: 10})
		}},
		{"commit", commitOf(3, 4345, 15, 9, 4500), func(o *api.Office) {
			o.Book.Commitments = append(o.Book.Commitments, api.Commitment{Number: 2, Reservation: 3, Day: 4345, Amount: 15, Payee: 9, Due: 4500})
		}},
		{"verify", opOf(api.OpVerify, 1, 4400, 15), func(o *api.Office) {
			o.Book.Verifications = append(o.Book.Verifications, api.Verification{Number: 2, Commitment: 1, Day: 4400, Amount: 15})
		}},
		{"returned", opOf(api.OpReturned, 1, 0, 0), func(o *api.Office) { o.Book.Orders[0].Back = true }},
		{"release", opOf(api.OpRelease, 1, 0, 20), func(o *api.Office) { o.Book.Reservations[0].Released = 20 }},
		{"drop", opOf(api.OpDrop, 1, 0, 15), func(o *api.Office) { o.Book.Commitments[0].Released = 15 }},
		{"return", returnOf("1", 12, 10), func(o *api.Office) { o.Rights[1].Returned = 20 }},
		{"hear", hearOf("1", 12, 120, 40), func(o *api.Office) { o.Rights[1].Granted, o.Rights[1].Asked = 120, 40 }},
		{"hear of less", hearOf("1", 12, 99, 29), func(o *api.Office) {}},
		{"hear of a right ahead", hearOf("1", 0, 7, 8), func(o *api.Office) { o.Rights = append([]api.Right{rightOf("1", 0, 7, 8, 0)}, o.Rights...) }},
		{"hear of a right between", hearOf("2", 99, mostTotal, mostTotal), func(o *api.Office) {
			o.Rights = []api.Right{o.Rights[0], o.Rights[1], rightOf("2", 99, mostTotal, mostTotal, 0), o.Rights[2]}
		}},
		{"hear of a right behind", hearOf("10", 12, 0, 0), func(o *api.Office) { o.Rights = append(o.Rights, rightOf("10", 12, 0, 0, 0)) }},
	} {
		want := cloneOf(o)
		c.change(&want)
		got, e := Do(o, c.op)
		is(t, c.name, got, e, want)
		// Fields that an operation does not use do not matter.
		got, e = Do(o, crowd(c.op))
		is(t, c.name+", other fields", got, e, want)
		if !Valid(got) {
			t.Errorf("%s: not valid", c.name)
		}
	}
	back, _ := Do(o, opOf(api.OpReturned, 1, 0, 0))
	again, e := Do(back, opOf(api.OpOrder, 1, 4500, 0))
	want := cloneOf(back)
	want.Book.Orders = append(want.Book.Orders, api.Order{Number: 2, Verification: 1, Attempt: 2, Day: 4500})
	is(t, "order", again, e, want)
	again, e = Do(back, crowd(opOf(api.OpOrder, 1, 4500, 0)))
	is(t, "order, other fields", again, e, want)
}

// crowd sets all fields that an operation does not use.
func crowd(op api.Op) api.Op {
	x := api.Op{Kind: op.Kind, Code: "no code", Year: -5, Day: -6, Of: -7, Amount: -8, Payee: -9, Due: -10, Granted: -11, AskedBack: -12}
	switch op.Kind {
	case api.OpReserve:
		x.Code, x.Year, x.Day, x.Amount = op.Code, op.Year, op.Day, op.Amount
	case api.OpCommit:
		x.Of, x.Day, x.Amount, x.Payee, x.Due = op.Of, op.Day, op.Amount, op.Payee, op.Due
	case api.OpVerify:
		x.Of, x.Day, x.Amount = op.Of, op.Day, op.Amount
	case api.OpOrder:
		x.Of, x.Day = op.Of, op.Day
	case api.OpRelease, api.OpDrop:
		x.Of, x.Amount = op.Of, op.Amount
	case api.OpReturn:
		x.Code, x.Year, x.Amount = op.Code, op.Year, op.Amount
	case api.OpHear:
		x.Code, x.Year, x.Granted, x.AskedBack = op.Code, op.Year, op.Granted, op.AskedBack
	case api.OpReturned:
		x.Of = op.Of
	}
	return x
}

func TestErrorsOfDo(t *testing.T) {
	o, full := example(t), manyRights(mostPots)
	for _, c := range []struct {
		name string
		o    api.Office
		op   api.Op
		want api.Errno
	}{
		{"no kind", o, api.Op{}, api.ErrInvalid},
		{"a kind below 0", o, api.Op{Kind: -1}, api.ErrInvalid},
		{"a kind too large", o, api.Op{Kind: 10}, api.ErrInvalid},
		{"reserve for no code", o, reserveOf("x", 12, 4330, 5), api.ErrCode},
		{"reserve nothing", o, reserveOf("1", 12, 4330, 0), api.ErrRange},
		{"reserve in another year", o, reserveOf("1", 12, 4680, 5), api.ErrYear},
		{"reserve more than what is unused", o, reserveOf("1", 12, 4330, 11), api.ErrFunds},
		{"reserve without a right", o, reserveOf("3", 12, 4330, 1), api.ErrFunds},
		{"reserve without a right in the year", o, reserveOf("1", 13, 4680, 1), api.ErrFunds},
		{"reserve all that is used", o, reserveOf("2.1", 13, 4700, 1), api.ErrFunds},
		{"reserve in another year more than what is unused", o, reserveOf("1", 12, 4680, 11), api.ErrYear},
		{"commit under none", o, commitOf(4, 4330, 1, 1, 1), api.ErrUnknown},
		{"commit nothing", o, commitOf(1, 4330, 0, 1, 1), api.ErrRange},
		{"commit in another year", o, commitOf(1, 4680, 1, 1, 1), api.ErrYear},
		{"commit too early", o, commitOf(1, 4329, 1, 1, 1), api.ErrOrder},
		{"commit too much", o, commitOf(1, 4330, 21, 1, 1), api.ErrFunds},
		{"verify none", o, opOf(api.OpVerify, 2, 4400, 1), api.ErrUnknown},
		{"verify too much", o, opOf(api.OpVerify, 1, 4400, 16), api.ErrFunds},
		{"verify too late", o, opOf(api.OpVerify, 1, 5040, 1), api.ErrYear},
		{"order none", o, opOf(api.OpOrder, 2, 4400, 0), api.ErrUnknown},
		{"order again", o, opOf(api.OpOrder, 1, 4400, 0), api.ErrRepeated},
		{"release too much", o, opOf(api.OpRelease, 1, 0, 21), api.ErrFunds},
		{"release of none", o, opOf(api.OpRelease, 4, 0, 1), api.ErrUnknown},
		{"drop too much", o, opOf(api.OpDrop, 1, 0, 16), api.ErrFunds},
		{"drop nothing", o, opOf(api.OpDrop, 1, 0, 0), api.ErrRange},
		{"returned of none", o, opOf(api.OpReturned, 0, 0, 0), api.ErrUnknown},
		{"return without a right", o, returnOf("1", 13, 1), api.ErrUnknown},
		{"return for no code", o, returnOf("", 12, 1), api.ErrUnknown},
		{"return nothing without a right", o, returnOf("1", 13, 0), api.ErrUnknown},
		{"return nothing", o, returnOf("1", 12, 0), api.ErrRange},
		{"return too much", o, returnOf("1", 12, mostTotal+1), api.ErrRange},
		{"return more than what is unused", o, returnOf("1", 12, 11), api.ErrFunds},
		{"hear of no code", o, hearOf("1.", 12, 5, 5), api.ErrCode},
		{"hear of no code, and no year", o, hearOf("", -1, -5, 5), api.ErrCode},
		{"hear of no year", o, hearOf("1", -1, 5, 5), api.ErrRange},
		{"hear of the year 100", o, hearOf("1", 100, 5, 5), api.ErrRange},
		{"hear of less than nothing", o, hearOf("1", 12, -1, 5), api.ErrRange},
		{"hear of too much", o, hearOf("1", 12, mostTotal+1, 5), api.ErrRange},
		{"hear of less than nothing asked", o, hearOf("1", 12, 5, -1), api.ErrRange},
		{"hear of too much asked", o, hearOf("3", 12, 5, mostTotal+1), api.ErrRange},
		{"hear of a right too many", full, hearOf("31", 12, 5, 5), api.ErrLimit},
		{"hear of a right too many between others", full, hearOf("30", 14, 5, 5), api.ErrLimit},
		{"years ahead of limits", full, hearOf("31", 100, 5, 5), api.ErrRange},
		{"limits ahead of what is heard", full, hearOf("31", 12, -5, 5), api.ErrLimit},
	} {
		got, e := Do(c.o, c.op)
		refused(t, c.name, got, e, c.want)
	}
	want := cloneOf(full)
	want.Rights[0].Granted = 11
	got, e := Do(full, hearOf("1", 12, 11, 0))
	is(t, "hear of the first one of 60 rights", got, e, want)
	got, e = Do(manyRights(mostPots-1), hearOf("30", 13, 10, 0))
	is(t, "hear of the 60th right", got, e, full)
}

func TestFullBook(t *testing.T) {
	o, _ := New(1)
	o, _ = Do(o, hearOf("1", 12, mostTotal, 0))
	for range mostBook {
		next, e := Do(o, reserveOf("1", 12, 4330, mostAmount))
		if e != api.OK {
			t.Fatalf("error %d", e)
		}
		o = next
	}
	if got := Unused(o, "1", 12); got != mostTotal-mostBook*mostAmount {
		t.Errorf("unused: %d", got)
	}
	got, e := Do(o, reserveOf("1", 12, 4330, mostAmount))
	refused(t, "a full book", got, e, api.ErrLimit)
	o.Rights[0].Granted = mostBook * mostAmount
	got, e = Do(o, reserveOf("1", 12, 4330, 1))
	refused(t, "limits ahead of what is unused", got, e, api.ErrLimit)
}

// P15.3

func TestAnswerAndReport(t *testing.T) {
	o := example(t)
	if op, ok := Answer(o, "1", 12); !ok || op != returnOf("1", 12, 10) {
		t.Errorf("the answer: %v, %v", op, ok)
	}
	for _, c := range []struct {
		code string
		year int
	}{{"1", 11}, {"2.1", 13}, {"2.1", 12}, {"3", 12}, {"", 0}, {"1", -1}} {
		if op, ok := Answer(o, c.code, c.year); ok || op != (api.Op{}) {
			t.Errorf("the answer for %q in %d: %v, %v", c.code, c.year, op, ok)
		}
	}
	o.Rights[1].Asked = 13
	if op, ok := Answer(o, "1", 12); !ok || op != returnOf("1", 12, 3) {
		t.Errorf("the answer to less: %v, %v", op, ok)
	}
	for _, c := range []struct {
		code string
		year int
		want api.Message
		e    api.Errno
	}{
		{"1", 12, api.Message{From: 2, Code: "1", Year: 12, Returned: 10, Used: 80}, api.OK},
		{"1", 11, api.Message{From: 2, Code: "1", Year: 11}, api.OK},
		{"2.1", 13, api.Message{From: 2, Code: "2.1", Year: 13, Used: 20}, api.OK},
		{"2.1", 12, api.Message{}, api.ErrUnknown},
		{"x", 12, api.Message{}, api.ErrUnknown},
		{"1", -1, api.Message{}, api.ErrUnknown},
	} {
		if m, e := Report(o, c.code, c.year); m != c.want || e != c.e {
			t.Errorf("the report of %q in %d: %v, error %d, not %v, error %d", c.code, c.year, m, e, c.want, c.e)
		}
	}
}

// The consequences, and P1

func TestExample(t *testing.T) {
	o, _ := New(1)
	o, _ = Do(o, hearOf("1", 12, 100, 0))
	o, e := Do(o, reserveOf("1", 12, 4330, 60))
	o, f := Do(o, returnOf("1", 12, 40))
	if e != api.OK || f != api.OK || Unused(o, "1", 12) != 0 {
		t.Errorf("errors %d and %d, unused %d", e, f, Unused(o, "1", 12))
	}
	for _, op := range []api.Op{reserveOf("1", 12, 4330, 1), returnOf("1", 12, 1)} {
		got, e := Do(o, op)
		refused(t, "nothing more", got, e, api.ErrFunds)
	}
	o, _ = Do(o, opOf(api.OpRelease, 1, 0, 5))
	for _, op := range []api.Op{reserveOf("1", 12, 4330, 5), returnOf("1", 12, 5)} {
		if _, e := Do(o, op); e != api.OK {
			t.Errorf("after a release: error %d", e)
		}
	}
}

func TestRandomOperations(t *testing.T) {
	r := rand.New(rand.NewSource(151))
	done := map[int]int{}
	for range 120 {
		o, _ := New(1 + r.Intn(6))
		for range 200 {
			op := randomOp(r, o)
			kept := cloneOf(o)
			got, e := Do(o, op)
			if text(o) != text(kept) {
				t.Fatalf("%v changed its argument", op)
			}
			want, f := afterOf(o, op)
			if e != f || !Same(got, want) || text(got) != text(want) {
				t.Fatalf("%v after %s: %s, error %d, not %s, error %d", op, text(o), text(got), e, text(want), f)
			}
			if e != api.OK {
				continue
			}
			done[op.Kind]++
			checkStep(t, o, op, got)
			o = got
		}
	}
	for kind := 1; kind <= 9; kind++ {
		if done[kind] < 30 {
			t.Errorf("%d was done %d times", kind, done[kind])
		}
	}
}

// checkStep fails unless an office stays valid, only what reserves makes more used, and only what hears gives it more.
func checkStep(t *testing.T, before api.Office, op api.Op, o api.Office) {
	t.Helper()
	if !Valid(o) || !validOf(o) {
		t.Fatalf("not valid after %v: %s", op, text(o))
	}
	for _, right := range o.Rights {
		used, was := commitment.Used(o.Book, right.Code, right.Year), commitment.Used(before.Book, right.Code, right.Year)
		old := Right(before, right.Code, right.Year)
		if used > was && op.Kind != api.OpReserve || right.Granted-right.Returned > old.Granted-old.Returned && op.Kind != api.OpHear {
			t.Fatalf("%v makes %s of %s", op, text(o), text(before))
		}
		if used > right.Granted-right.Returned || Unused(o, right.Code, right.Year) != right.Granted-right.Returned-used {
			t.Fatalf("%d are used of %v", used, right)
		}
		wanted := rights.Wanted(right, used)
		answer, ok := Answer(o, right.Code, right.Year)
		if ok != (wanted > 0) || ok && answer != returnOf(right.Code, right.Year, wanted) {
			t.Fatalf("the answer is %v for %v, of which %d are used", answer, right, used)
		}
	}
}

func TestValidOfRandomOffices(t *testing.T) {
	r := rand.New(rand.NewSource(152))
	valid := map[bool]int{}
	for range 150 {
		o, _ := New(1)
		for range 60 {
			if next, e := Do(o, randomOp(r, o)); e == api.OK {
				o = next
			}
		}
		for range 30 {
			x := cloneOf(o)
			for range 1 + r.Intn(2) {
				spoil(r, &x)
			}
			got := Valid(x)
			if got != validOf(x) {
				t.Fatalf("%v of %s", got, text(x))
			}
			valid[got]++
		}
	}
	if valid[true] < 500 || valid[false] < 500 {
		t.Errorf("%d are valid, %d are not", valid[true], valid[false])
	}
}

// spoil changes a right, or what is reserved, by a little.
func spoil(r *rand.Rand, o *api.Office) {
	by := []int{-30, -3, -1, 1, 3, 30}[r.Intn(6)]
	if n := len(o.Book.Reservations); n > 0 && r.Intn(3) == 0 {
		x := &o.Book.Reservations[r.Intn(n)]
		*[]*int{&x.Amount, &x.Released}[r.Intn(2)] += by
		return
	}
	if n := len(o.Rights); n > 0 {
		x := &o.Rights[r.Intn(n)]
		*[]*int{&x.Granted, &x.Returned, &x.Asked, &x.Granted, &x.Year}[r.Intn(5)] += by
	}
}

func TestResultsAreNewMemory(t *testing.T) {
	o := example(t)
	// A list with room behind it must not be grown in place.
	o.Rights = append(o.Rights, api.Right{})[:3]
	kept := cloneOf(o)
	for _, op := range []api.Op{reserveOf("1", 12, 4679, 10), commitOf(3, 4345, 15, 9, 4500), opOf(api.OpVerify, 1, 4400, 15), opOf(api.OpReturned, 1, 0, 0), opOf(api.OpRelease, 1, 0, 20), opOf(api.OpDrop, 1, 0, 15), returnOf("1", 12, 10), hearOf("1", 12, 120, 40), hearOf("1", 0, 7, 8)} {
		got, e := Do(o, op)
		if e != api.OK {
			t.Errorf("%v: error %d", op, e)
			continue
		}
		for i := range got.Rights {
			got.Rights[i].Granted = -7
		}
		b := got.Book
		b.Reservations[0].Amount, b.Commitments[0].Amount, b.Verifications[0].Amount, b.Orders[0].Day = -7, -7, -7, -7
		if text(o) != text(kept) || o.Rights[:4][3] != (api.Right{}) {
			t.Fatalf("%v shares its memory", op)
		}
	}
}
