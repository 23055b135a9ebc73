package office

import (
	"fmt"
	"math/rand"
	"slices"
	"testing"

	"treasury/api"
	"treasury/classification"
	"treasury/commitment"
	"treasury/rights"
)

// The limits are written out here as the document has them, so that a wrong one shows.
const (
	mostAmount  = 1000000000000
	mostTotal   = 1000000000000000
	mostPots    = 60
	mostOffices = 6
	mostBook    = 200
)

// The year 12 has the days from 4320 to 4679, the year 13 those from 4680 to 5039.

func rightOf(code string, year, granted, asked, returned int) api.Right {
	return api.Right{Code: code, Year: year, Granted: granted, Asked: asked, Returned: returned}
}

// bookOf returns a book after operations, which must be possible.
func bookOf(t *testing.T, ops ...api.Op) api.Book {
	t.Helper()
	var b api.Book
	for _, op := range ops {
		next, e := bookAfter(b, op)
		if e != api.OK {
			t.Fatalf("%v: error %d", op, e)
		}
		b = next
	}
	return b
}

// bookAfter is a reference: what an operation does to a book alone.
func bookAfter(b api.Book, op api.Op) (api.Book, api.Errno) {
	switch op.Kind {
	case 1:
		return commitment.Reserve(b, op.Code, op.Year, op.Day, op.Amount)
	case 2:
		return commitment.Commit(b, op.Of, op.Day, op.Amount, op.Payee, op.Due)
	case 3:
		return commitment.Verify(b, op.Of, op.Day, op.Amount)
	case 4:
		return commitment.Order(b, op.Of, op.Day)
	case 5:
		return commitment.Release(b, op.Of, op.Amount)
	case 6:
		return commitment.Drop(b, op.Of, op.Amount)
	case 9:
		return commitment.Back(b, op.Of)
	}
	return api.Book{}, api.ErrInvalid
}

func reserveOf(code string, year, day, amount int) api.Op {
	return api.Op{Kind: api.OpReserve, Code: code, Year: year, Day: day, Amount: amount}
}

func commitOf(of, day, amount, payee, due int) api.Op {
	return api.Op{Kind: api.OpCommit, Of: of, Day: day, Amount: amount, Payee: payee, Due: due}
}

func hearOf(code string, year, granted, asked int) api.Op {
	return api.Op{Kind: api.OpHear, Code: code, Year: year, Granted: granted, AskedBack: asked}
}

func returnOf(code string, year, amount int) api.Op {
	return api.Op{Kind: api.OpReturn, Code: code, Year: year, Amount: amount}
}

// opOf returns an operation of another kind, on the entry with a number.
func opOf(kind, of, day, amount int) api.Op {
	return api.Op{Kind: kind, Of: of, Day: day, Amount: amount}
}

// cloneOf returns an office in memory of its own.
func cloneOf(o api.Office) api.Office {
	b := api.Book{Reservations: slices.Clone(o.Book.Reservations), Commitments: slices.Clone(o.Book.Commitments), Verifications: slices.Clone(o.Book.Verifications), Orders: slices.Clone(o.Book.Orders)}
	return api.Office{Number: o.Number, Rights: slices.Clone(o.Rights), Book: b}
}

// text returns an office as a text, the same for lists that are nil and empty.
func text(o api.Office) string {
	return fmt.Sprint(o.Number, o.Rights, o.Book.Reservations, o.Book.Commitments, o.Book.Verifications, o.Book.Orders)
}

// is fails unless a result is an office without an error.
func is(t *testing.T, name string, got api.Office, e api.Errno, want api.Office) {
	t.Helper()
	if e != api.OK || text(got) != text(want) {
		t.Errorf("%s: %s, error %d, not %s", name, text(got), e, text(want))
	}
}

// refused fails unless a result is an error alone.
func refused(t *testing.T, name string, got api.Office, e, want api.Errno) {
	t.Helper()
	if e != want || text(got) != text(api.Office{}) {
		t.Errorf("%s: %s, error %d, not %d", name, text(got), e, want)
	}
}

// validOf is a reference: whether an office is valid, read off the chapter.
func validOf(o api.Office) bool {
	good := o.Number >= 1 && o.Number <= mostOffices && len(o.Rights) <= mostPots && commitment.Valid(o.Book)
	may := map[string]int{}
	for i, r := range o.Rights {
		good = good && rights.Right(r)
		if i > 0 {
			p := o.Rights[i-1]
			c := classification.Compare(p.Code, r.Code)
			good = good && (c < 0 || c == 0 && p.Year < r.Year)
		}
		may[fmt.Sprint(r.Code, " ", r.Year)] = r.Granted - r.Returned
	}
	if !good {
		return false
	}
	for _, r := range o.Book.Reservations {
		n, found := may[fmt.Sprint(r.Code, " ", r.Year)]
		if !found || commitment.Used(o.Book, r.Code, r.Year) > n {
			return false
		}
	}
	return true
}

// afterOf is a reference: the rights and the book of a valid office after an operation, each looked at alone.
func afterOf(o api.Office, op api.Op) (api.Office, api.Errno) {
	next := cloneOf(o)
	at := slices.IndexFunc(o.Rights, func(r api.Right) bool { return r.Code == op.Code && r.Year == op.Year })
	right := rightOf(op.Code, op.Year, 0, 0, 0)
	if at >= 0 {
		right = o.Rights[at]
	}
	used := commitment.Used(o.Book, op.Code, op.Year)
	var e api.Errno
	switch op.Kind {
	case 7:
		if at < 0 {
			return api.Office{}, api.ErrUnknown
		}
		next.Rights[at], e = rights.Return(right, used, op.Amount)
	case 8:
		switch {
		case classification.Parts(op.Code) == nil:
			return api.Office{}, api.ErrCode
		case op.Year < 0 || op.Year > 99:
			return api.Office{}, api.ErrRange
		case at < 0 && len(o.Rights) == mostPots:
			return api.Office{}, api.ErrLimit
		}
		right, e = rights.Learn(right, api.Message{Code: op.Code, Year: op.Year, Granted: op.Granted, Asked: op.AskedBack})
		if at < 0 {
			next.Rights = append(next.Rights, right)
			slices.SortFunc(next.Rights, func(a, b api.Right) int {
				if c := classification.Compare(a.Code, b.Code); c != 0 {
					return c
				}
				return a.Year - b.Year
			})
		} else {
			next.Rights[at] = right
		}
	default:
		next.Book, e = bookAfter(o.Book, op)
		if e == api.OK && op.Kind == 1 && op.Amount > right.Granted-right.Returned-used {
			e = api.ErrFunds
		}
	}
	if e != api.OK {
		return api.Office{}, e
	}
	return next, e
}

// randomOp returns an operation that is often possible.
func randomOp(r *rand.Rand, o api.Office) api.Op {
	of := func(n int) int { return 1 + r.Intn(n+1) }
	day, amount := 4320+r.Intn(720), 1+r.Intn(60)
	code := []string{"1", "2", "10", "2.1"}[r.Intn(4)]
	switch r.Intn(12) {
	case 0, 1:
		return hearOf(code, 12+r.Intn(2), r.Intn(300), r.Intn(200))
	case 2, 3:
		return reserveOf(code, day/360, day, 2*amount)
	case 4:
		return commitOf(of(len(o.Book.Reservations)), 4320+r.Intn(2)*360+359, amount, 5, 4400)
	case 5:
		return opOf(api.OpVerify, of(len(o.Book.Commitments)), 5039, amount/3+1)
	case 6:
		return opOf(api.OpOrder, of(len(o.Book.Verifications)), 5039, 0)
	case 7:
		return opOf(api.OpRelease, of(len(o.Book.Reservations)), 0, amount/3+1)
	case 8:
		return opOf(api.OpDrop, of(len(o.Book.Commitments)), 0, amount/3+1)
	case 9:
		return opOf(api.OpReturned, of(len(o.Book.Verifications)), 0, 0)
	case 10:
		if op, ok := Answer(o, code, 12); ok {
			return op
		}
	}
	return returnOf(code, 12+r.Intn(2), amount)
}
