package available

import (
	"fmt"
	"math"
	"math/rand"
	"slices"
	"testing"

	"treasury/amendment"
	"treasury/api"
	"treasury/budget"
	"treasury/earmark"
)

// P12.1

// refused fails unless all functions have an error, and nothing else.
func refused(t *testing.T, name string, f api.Facts, code string, year, day int, want api.Errno) {
	t.Helper()
	reasons, e1 := Reasons(f, code, year, day)
	amount, e2 := Amount(f, code, year, day)
	usable, e3 := Usable(f, code, year, day)
	if e1 != want || e2 != want || e3 != want || reasons != nil || amount != 0 || usable != 0 {
		t.Errorf("%s: %v, %d and %d, errors %d, %d and %d, not %d", name, reasons, amount, usable, e1, e2, e3, want)
	}
}

// unchecked fails unless Check, and all that calls it, has an error.
func unchecked(t *testing.T, name string, f api.Facts, want api.Errno) {
	t.Helper()
	if e := Check(f); e != want {
		t.Errorf("%s: error %d, not %d", name, e, want)
	}
	refused(t, name, f, "1", 12, 4330, want)
	refused(t, name, f, "no code", -5, -5, want)
	if days, e := Days(f); days != nil || e != want {
		t.Errorf("%s: days %v, error %d, not %d", name, days, e, want)
	}
	if all, e := All(f, 12, 4330); all != nil || e != want {
		t.Errorf("%s: all %v, error %d, not %d", name, all, e, want)
	}
	if all, e := All(f, -5, -5); all != nil || e != want {
		t.Errorf("%s: all %v of another year, error %d, not %d", name, all, e, want)
	}
}

func TestCheckOfCarriedAmounts(t *testing.T) {
	good := carryOf(4330, 2, "1", 12, 5)
	for _, c := range []struct {
		name   string
		change func(x *api.Carry)
		want   api.Errno
	}{
		{"a number of 0", func(x *api.Carry) { x.Number = 0 }, api.ErrRange},
		{"a number too large", func(x *api.Carry) { x.Number = mostNumber + 1 }, api.ErrRange},
		{"a day below 0", func(x *api.Carry) { x.Day = -1 }, api.ErrRange},
		{"a day too large", func(x *api.Carry) { x.Day = lastDay + 1 }, api.ErrRange},
		{"an amount of 0", func(x *api.Carry) { x.Amount = 0 }, api.ErrRange},
		{"an amount too large", func(x *api.Carry) { x.Amount = mostAmount + 1 }, api.ErrRange},
		{"a correction too large", func(x *api.Carry) { x.Amount = -mostAmount - 1 }, api.ErrRange},
		{"the least number as an amount", func(x *api.Carry) { x.Amount = math.MinInt }, api.ErrRange},
		{"a code with others under it", func(x *api.Carry) { x.Code = "2" }, api.ErrCode},
		{"a code that is not there", func(x *api.Carry) { x.Code = "3" }, api.ErrCode},
		{"no code", func(x *api.Carry) { x.Code = "" }, api.ErrCode},
		{"the year before", func(x *api.Carry) { x.Year = 11 }, api.ErrYear},
		{"the year behind", func(x *api.Carry) { x.Year = 14 }, api.ErrYear},
		{"all years", func(x *api.Carry) { x.Year = -1 }, api.ErrYear},
		{"twice", func(x *api.Carry) { x.Number = 1 }, api.ErrOrder},
		{"an earlier day", func(x *api.Carry) { x.Day = 4329 }, api.ErrOrder},
		{"ranges ahead of codes", func(x *api.Carry) { x.Code, x.Day = "x", -1 }, api.ErrRange},
		{"codes ahead of years", func(x *api.Carry) { x.Code, x.Year = "x", 11 }, api.ErrCode},
		{"years ahead of the order", func(x *api.Carry) { x.Year, x.Day = 11, 1 }, api.ErrYear},
		{"in order", func(x *api.Carry) {}, api.OK},
		{"a later day, a lesser number", func(x *api.Carry) { x.Day, x.Number = 4331, 1 }, api.OK},
		{"the least numbers", func(x *api.Carry) { x.Amount, x.Year = -mostAmount, 13 }, api.OK},
		{"the largest numbers", func(x *api.Carry) { x.Number, x.Day, x.Amount = mostNumber, lastDay, mostAmount }, api.OK},
	} {
		x := good
		c.change(&x)
		f := api.Facts{Law: lawOf(t, ""), Carried: []api.Carry{carryOf(4330, 1, "9.2", 13, -5), x}}
		if c.want != api.OK {
			unchecked(t, c.name, f, c.want)
			f.Carried = append(f.Carried, api.Carry{})
			unchecked(t, c.name+", ahead of another one", f, c.want)
			continue
		}
		if e := Check(f); e != api.OK {
			t.Errorf("%s: error %d", c.name, e)
		}
	}
}

func TestCheckOfLists(t *testing.T) {
	l := lawOf(t, "line 1 12 500; rule 1 1 2 10")
	transfers := []api.Transfer{transferOf(4330, 1, 1, "1", "2.1", 12, 5), transferOf(4330, 1, 1, "1", "2.1", 12, 5)}
	receipts := []api.Receipt{receiptOf(4330, 1, "2", 5)}
	var carried []api.Carry
	for i := range 61 {
		carried = append(carried, carryOf(0, i+1, "2.1", 12, 1))
	}
	bad := copyOf(api.Facts{Law: l}).Law
	bad.Lines[0].Year = 11
	for _, c := range []struct {
		name string
		f    api.Facts
		want api.Errno
	}{
		{"no facts", api.Facts{}, api.ErrRange},
		{"a line of another year", api.Facts{Law: bad, Transfers: transfers, Receipts: receipts, Carried: carried}, api.ErrYear},
		{"61 transfers", api.Facts{Law: l, Transfers: make([]api.Transfer, 61), Receipts: receipts, Carried: carried}, api.ErrLimit},
		{"a transfer twice", api.Facts{Law: l, Transfers: transfers, Receipts: receipts, Carried: carried}, api.ErrOrder},
		{"101 receipts", api.Facts{Law: l, Receipts: make([]api.Receipt, 101), Carried: carried}, api.ErrLimit},
		{"a receipt of no leaf", api.Facts{Law: l, Transfers: transfers[:1], Receipts: receipts, Carried: carried}, api.ErrCode},
		{"61 carried amounts", api.Facts{Law: l, Transfers: transfers[:1], Carried: carried}, api.ErrLimit},
		{"61 carried amounts without numbers", api.Facts{Law: l, Carried: make([]api.Carry, 61)}, api.ErrLimit},
		{"60 carried amounts without numbers", api.Facts{Law: l, Carried: make([]api.Carry, 60)}, api.ErrRange},
	} {
		unchecked(t, c.name, c.f, c.want)
	}
	for _, f := range []api.Facts{{Law: l}, {Law: l, Carried: carried[:60]}, {Law: l, Transfers: make([]api.Transfer, 1)}} {
		if e := Check(f); e != api.OK {
			t.Errorf("%v: error %d", f, e)
		}
	}
}

// P12.2

func TestExample(t *testing.T) {
	f := api.Facts{
		Law:       lawOf(t, "line 1 12 500; earmark 9 1 33; wait 1 12 100 12-06-01; rule 1 1 2 10"),
		Transfers: []api.Transfer{transferOf(4325, 7, 1, "1", "2.1", 12, 50)},
		Receipts:  []api.Receipt{receiptOf(4330, 3, "9.2", 99)},
	}
	for _, c := range []struct {
		code            string
		year, day       int
		reasons         string
		amount, usable  int
		withoutTransfer int
	}{
		{"1", 12, 4330, "1 0 500; 3 7 -50; 4 1 32; 5 1 -100", 382, 382, 432},
		{"1", 12, 4329, "1 0 500; 3 7 -50; 5 1 -100", 350, 350, 400},
		{"1", 12, 4324, "1 0 500; 5 1 -100", 400, 400, 400},
		{"1", 12, 0, "1 0 500; 5 1 -100", 400, 400, 400},
		{"1", 12, 4469, "1 0 500; 3 7 -50; 4 1 32; 5 1 -100", 382, 382, 432},
		{"1", 12, 4470, "1 0 500; 3 7 -50; 4 1 32", 482, 482, 532},
		{"1", 12, 36000, "1 0 500; 3 7 -50; 4 1 32", 482, 482, 532},
		{"1", 13, 4470, "", 0, 0, 0},
		{"2.1", 12, 4324, "", 0, 0, 0},
		{"2.1", 12, 4325, "2 7 50", 50, 50, 0},
		{"2.1", 13, 4325, "", 0, 0, 0},
		{"2.9", 12, 4470, "", 0, 0, 0},
		{"9.2", 12, 4470, "", 0, 0, 0},
	} {
		reasons, e := Reasons(f, c.code, c.year, c.day)
		if textOf(reasons) != c.reasons || e != api.OK {
			t.Errorf("%s in %d on %d: %s, error %d, not %s", c.code, c.year, c.day, textOf(reasons), e, c.reasons)
		}
		if n, e := Amount(f, c.code, c.year, c.day); n != c.amount || e != api.OK {
			t.Errorf("%s in %d on %d: %d, error %d, not %d", c.code, c.year, c.day, n, e, c.amount)
		}
		if n, e := Usable(f, c.code, c.year, c.day); n != c.usable || e != api.OK {
			t.Errorf("%s in %d on %d: %d are usable, error %d, not %d", c.code, c.year, c.day, n, e, c.usable)
		}
		if n, e := Amount(api.Facts{Law: f.Law, Receipts: f.Receipts}, c.code, c.year, c.day); n != c.withoutTransfer || e != api.OK {
			t.Errorf("%s in %d on %d without the transfer: %d, error %d, not %d", c.code, c.year, c.day, n, e, c.withoutTransfer)
		}
	}
}

func TestReasonsInTheirOrder(t *testing.T) {
	f := api.Facts{
		Law: lawOf(t, "line 1 12 500; line 2.1 12 200; earmark 2 1 10; earmark 9 1 50; earmark 9.1 1 1; earmark 9.2 2.1 9; wait 2.1 12 3 12-06-01; wait 1 12 10 12-06-01; reach 1 12 20 9 500; "+
			"wait 1 12 0 12-06-01; wait 1 13 40 12-06-01; rule 1 1 2 10; rule 2 2 1 50; amend 12-01-21 1 line 1 12 0; amend 12-01-21 1 line 2.1 12 190; amend 12-02-01 1 line 1 12 400"),
		Transfers: []api.Transfer{transferOf(4322, 9, 1, "1", "2.1", 12, 50), transferOf(4323, 8, 1, "1", "2.1", 12, 1), transferOf(4323, 9, 2, "2.1", "1", 12, 30), transferOf(4324, 1, 2, "2.1", "1", 12, 70)},
		Receipts:  []api.Receipt{receiptOf(4324, 1, "9.2", 90), receiptOf(4325, 1, "9.2", -20), receiptOf(4326, 1, "2.1", 9), receiptOf(4327, 1, "9.2", -80)},
		Carried:   []api.Carry{carryOf(4324, 6, "1", 12, 5), carryOf(4324, 7, "1", 13, 6), carryOf(4324, 8, "2.1", 12, 7), carryOf(4326, 2, "1", 12, -600)},
	}
	for _, c := range []struct {
		code      string
		year, day int
		want      string
		usable    int
	}{
		{"1", 12, 4323, "1 0 500; 3 9 -50; 2 9 30; 5 2 -10; 5 3 -20", 450},
		{"1", 12, 4324, "1 0 500; 3 9 -50; 2 9 30; 2 1 70; 4 2 45; 5 2 -10; 5 3 -20; 6 6 5", 570},
		{"1", 12, 4325, "1 0 500; 3 9 -50; 2 9 30; 2 1 70; 4 2 35; 5 2 -10; 5 3 -20; 6 6 5", 560},
		{"1", 12, 4326, "1 0 500; 3 9 -50; 2 9 30; 2 1 70; 4 2 35; 5 2 -10; 5 3 -20; 6 6 5; 6 2 -600", 0},
		{"1", 12, 4327, "1 0 500; 3 9 -50; 2 9 30; 2 1 70; 5 2 -10; 5 3 -20; 6 6 5; 6 2 -600", 0},
		{"1", 12, 4340, "3 9 -50; 2 9 30; 2 1 70; 5 2 -10; 5 3 -20; 6 6 5; 6 2 -600", 0},
		{"1", 12, 4350, "1 0 400; 3 9 -50; 2 9 30; 2 1 70; 5 2 -10; 5 3 -20; 6 6 5; 6 2 -600", 0},
		{"1", 13, 4340, "5 5 -40; 6 7 6", 0},
		{"2.1", 12, 4324, "1 0 200; 2 9 50; 3 9 -30; 3 1 -70; 4 4 8; 5 1 -3; 6 8 7", 162},
		{"2.1", 12, 4340, "1 0 190; 2 9 50; 3 9 -30; 3 1 -70; 5 1 -3; 6 8 7", 144},
	} {
		reasons, e := Reasons(f, c.code, c.year, c.day)
		amount, g := Amount(f, c.code, c.year, c.day)
		usable, h := Usable(f, c.code, c.year, c.day)
		if textOf(reasons) != c.want || amount != sumOf(reasons) || usable != c.usable || e != api.OK || g != api.OK || h != api.OK {
			t.Errorf("%s in %d on %d: %s, %d and %d, errors %d, %d and %d, not %s", c.code, c.year, c.day, textOf(reasons), amount, usable, e, g, h, c.want)
		}
	}
}

func TestErrorsOfWhatIsAsked(t *testing.T) {
	f := api.Facts{Law: lawOf(t, "line 1 12 500")}
	refused(t, "a code with others under it", f, "2", 12, 4330, api.ErrCode)
	refused(t, "a code that is not there", f, "3", 12, 4330, api.ErrCode)
	refused(t, "no code", f, "", 12, 4330, api.ErrCode)
	refused(t, "the year before", f, "1", 11, 4330, api.ErrYear)
	refused(t, "the year behind", f, "1", 14, 4330, api.ErrYear)
	refused(t, "all years", f, "1", -1, 4330, api.ErrYear)
	refused(t, "a day below 0", f, "1", 12, -1, api.ErrRange)
	refused(t, "a day too large", f, "1", 13, 36001, api.ErrRange)
	refused(t, "the least number as a day", f, "1", 13, math.MinInt, api.ErrRange)
	refused(t, "codes ahead of years", f, "x", 11, -1, api.ErrCode)
	refused(t, "years ahead of days", f, "1", 11, -1, api.ErrYear)
	for _, day := range []int{0, 36000} {
		if n, e := Amount(f, "1", 12, day); n != 500 || e != api.OK {
			t.Errorf("on %d: %d, error %d", day, n, e)
		}
	}
}

// crowded returns a law to which an amendment on the day 4330 adds more lines than there may be.
func crowded(t *testing.T) api.Law {
	l := lawOf(t, "")
	l.Years, l.Tree = 4, nil
	for i := range 31 {
		code := fmt.Sprint(i + 1)
		l.Tree = append(l.Tree, api.Heading{Code: code, Name: "x"})
		for year := 12; year < 16 && len(l.Lines) < 120; year++ {
			l.Lines = append(l.Lines, lineOf(code, year, 1))
		}
	}
	l.Amendments = []api.Amendment{{Day: 4330, Number: 1, Changes: []api.Change{{Kind: api.ChangeLine, Code: "31", Year: 12, Amount: 1}}}}
	if e := budget.Valid(l); e != api.OK {
		t.Fatalf("no law: error %d", e)
	}
	return l
}

func TestErrorOfTheLawInForce(t *testing.T) {
	f := api.Facts{Law: crowded(t)}
	if n, e := Amount(f, "1", 12, 4329); n != 1 || e != api.OK {
		t.Errorf("the day before: %d, error %d", n, e)
	}
	refused(t, "too many lines", f, "1", 12, 4330, api.ErrLimit)
	refused(t, "years ahead of too many lines", f, "1", 16, 4330, api.ErrYear)
	if all, e := All(f, 12, 4330); all != nil || e != api.ErrLimit {
		t.Errorf("all %v, error %d", all, e)
	}
	if days, e := Days(f); !slices.Equal(days, []int{4330}) || e != api.OK {
		t.Errorf("days %v, error %d", days, e)
	}
}

func TestMostOfAll(t *testing.T) {
	f := api.Facts{Law: lawOf(t, "line 1 12 1000000000000; line 2.1 12 1000000000000; earmark 9 1 100; rule 1 2 1 100; amend 12-01-02 1 line 2.1 12 0")}
	for i := range 100 {
		f.Receipts = append(f.Receipts, receiptOf(4320, i+1, "9.2", mostAmount))
	}
	for i := range 60 {
		f.Carried = append(f.Carried, carryOf(4320, i+1, "1", 12, mostAmount))
	}
	f.Transfers = []api.Transfer{transferOf(4320, 1, 1, "2.1", "1", 12, mostAmount)}
	if n, e := Usable(f, "1", 12, 4320); n != 162*mostAmount || e != api.OK {
		t.Errorf("%d, error %d", n, e)
	}
	if n, e := Amount(f, "2.1", 12, 4321); n != -mostAmount || e != api.OK {
		t.Errorf("%d of what was given away, error %d", n, e)
	}
	for i := range f.Carried {
		f.Carried[i].Amount = -mostAmount
	}
	if n, e := Amount(f, "1", 12, 4320); n != 42*mostAmount || e != api.OK {
		t.Errorf("%d after corrections, error %d", n, e)
	}
}

func TestRandomReasons(t *testing.T) {
	r := rand.New(rand.NewSource(121))
	kinds := map[int]int{}
	for range 150 {
		f := randomFacts(r)
		for range 6 {
			code, year, day := leaves[r.Intn(5)], 12+r.Intn(2), 4200+r.Intn(1200)
			got, e := Reasons(f, code, year, day)
			want := reasonsOf(f, code, year, day)
			amount, g := Amount(f, code, year, day)
			usable, h := Usable(f, code, year, day)
			if e != api.OK || g != api.OK || h != api.OK || !slices.Equal(got, want) || amount != sumOf(want) || usable != max(0, amount) {
				t.Fatalf("%s in %d on %d: %s, %d and %d, errors %d, %d and %d, not %s, of %v", code, year, day, textOf(got), amount, usable, e, g, h, textOf(want), f)
			}
			for _, x := range want {
				kinds[x.Kind]++
			}
		}
	}
	for kind := 1; kind <= 6; kind++ {
		if kinds[kind] < 20 {
			t.Errorf("%d reasons of the kind %d", kinds[kind], kind)
		}
	}
}

// P12.3

func TestDays(t *testing.T) {
	l := lawOf(t, "line 1 12 500; wait 1 12 100 12-06-01; wait 1 12 100 0-01-01; wait 1 12 100 0-01-02; reach 1 12 20 9 50; reach 1 12 20 9 51; reach 2.1 13 20 9 0; rule 1 1 2 10; amend 12-01-21 1 line 1 12 0; amend 12-01-21 2 line 1 12 190; amend 12-02-01 1 line 1 12 190")
	f := api.Facts{
		Law:       l,
		Transfers: []api.Transfer{transferOf(4322, 9, 1, "1", "2.1", 12, 50), transferOf(4323, 8, 1, "1", "2.1", 12, 1), transferOf(4324, 8, 1, "1", "2.1", 13, 1)},
		Receipts:  []api.Receipt{receiptOf(12, 1, "9.2", 1), receiptOf(4350, 1, "9.2", 30), receiptOf(4360, 1, "9.1", 20), receiptOf(9000, 1, "9.1", 20)},
		Carried:   []api.Carry{carryOf(4324, 6, "1", 12, 5), carryOf(4360, 6, "1", 12, 5)},
	}
	days, e := Days(f)
	if want := []int{1, 12, 4322, 4324, 4340, 4350, 4360, 4470, 4680, 9000}; !slices.Equal(days, want) || e != api.OK {
		t.Errorf("days %v, error %d, not %v", days, e, want)
	}
	days, e = Days(api.Facts{Law: lawOf(t, "wait 1 12 100 0-01-01; reach 1 12 20 9 51")})
	if len(days) != 0 || e != api.OK {
		t.Errorf("days %v without any, error %d", days, e)
	}
	first := api.Facts{Law: lawOf(t, "wait 1 12 100 0-01-01"), Receipts: []api.Receipt{receiptOf(0, 1, "9.2", 30)}}
	days, e = Days(first)
	if !slices.Equal(days, []int{0}) || e != api.OK {
		t.Errorf("days %v of a receipt on the day 0, error %d", days, e)
	}
}

func TestAll(t *testing.T) {
	f := api.Facts{
		Law:      lawOf(t, "line 1 12 500; line 2.9 13 7; earmark 9 2.1 50; wait 9.1 12 30 12-06-01"),
		Receipts: []api.Receipt{receiptOf(4330, 1, "9.2", 9)},
		Carried:  []api.Carry{carryOf(4330, 1, "1", 12, -501)},
	}
	for _, c := range []struct {
		year, day int
		want      []api.Line
	}{
		{12, 4329, []api.Line{lineOf("1", 12, 500), lineOf("2.1", 12, 0), lineOf("2.9", 12, 0), lineOf("9.1", 12, -30), lineOf("9.2", 12, 0)}},
		{12, 4330, []api.Line{lineOf("1", 12, -1), lineOf("2.1", 12, 4), lineOf("2.9", 12, 0), lineOf("9.1", 12, -30), lineOf("9.2", 12, 0)}},
		{13, 36000, []api.Line{lineOf("1", 13, 0), lineOf("2.1", 13, 0), lineOf("2.9", 13, 7), lineOf("9.1", 13, 0), lineOf("9.2", 13, 0)}},
	} {
		if all, e := All(f, c.year, c.day); !slices.Equal(all, c.want) || e != api.OK {
			t.Errorf("all in %d on %d: %v, error %d, not %v", c.year, c.day, all, e, c.want)
		}
	}
	for _, c := range []struct {
		year, day int
		want      api.Errno
	}{{11, 4330, api.ErrYear}, {14, 4330, api.ErrYear}, {-1, -1, api.ErrYear}, {12, -1, api.ErrRange}, {12, 36001, api.ErrRange}} {
		if all, e := All(f, c.year, c.day); all != nil || e != c.want {
			t.Errorf("all in %d on %d: %v, error %d, not %d", c.year, c.day, all, e, c.want)
		}
	}
}

func TestAllOfALawWithoutLeaves(t *testing.T) {
	f := api.Facts{Law: api.Law{First: 12, Years: 2}}
	for _, day := range []int{-1, 4330} {
		if all, e := All(f, 5, day); len(all) != 0 || e != api.OK {
			t.Errorf("all %v, error %d", all, e)
		}
	}
	f.Carried = make([]api.Carry, 61)
	if all, e := All(f, 12, 4330); all != nil || e != api.ErrLimit {
		t.Errorf("all %v of too many, error %d", all, e)
	}
}

func TestRandomDaysAndAll(t *testing.T) {
	r := rand.New(rand.NewSource(122))
	for range 40 {
		f := randomFacts(r)
		days, e := Days(f)
		if e != api.OK || !slices.IsSorted(days) || len(slices.Compact(slices.Clone(days))) != len(days) {
			t.Fatalf("days %v, error %d", days, e)
		}
		// Nothing changes between two days, but for the year that a receipt is in: that is of the year which is asked for.
		for i, day := range days {
			last := 36000
			if i+1 < len(days) {
				last = days[i+1] - 1
			}
			for year := 12; year <= 13; year++ {
				from, e := All(f, year, day)
				to, g := All(f, year, last)
				if !slices.Equal(from, to) || e != api.OK || g != api.OK {
					t.Fatalf("%v on %d, %v on %d, errors %d and %d", from, day, to, last, e, g)
				}
			}
		}
	}
}

// The consequences, and P1

func TestSumOfAllLeaves(t *testing.T) {
	r := rand.New(rand.NewSource(123))
	for range 100 {
		f := randomFacts(r)
		year, day := 12+r.Intn(2), 4200+r.Intn(1200)
		all, e := All(f, year, day)
		got := 0
		for i, x := range all {
			amount, g := Amount(f, x.Code, year, day)
			if x != lineOf(leaves[i], year, amount) || g != api.OK {
				t.Fatalf("%v, not %d, error %d", x, amount, g)
			}
			got += x.Amount
		}
		force, _ := amendment.InForce(f.Law, day)
		want := 0
		for _, x := range force.Lines {
			if x.Year == year {
				want += x.Amount
			}
		}
		shares, _ := earmark.Shares(f.Law, f.Receipts, year, day)
		for _, x := range shares {
			want += x
		}
		for _, x := range f.Law.Conditions {
			if x.Year == year && !holdsOf(f, x, day) {
				want -= x.Amount
			}
		}
		for _, x := range f.Carried {
			if x.Year == year && x.Day <= day {
				want += x.Amount
			}
		}
		if got != want || e != api.OK {
			t.Fatalf("%d together, error %d, not %d", got, e, want)
		}
	}
}

func TestArgumentsStayAsTheyAre(t *testing.T) {
	r := rand.New(rand.NewSource(124))
	for range 30 {
		f := randomFacts(r)
		kept := copyOf(f)
		Check(f)
		reasons, _ := Reasons(f, "1", 12, 4700)
		days, _ := Days(f)
		all, _ := All(f, 12, 4700)
		for i := range reasons {
			reasons[i].Amount = -7
		}
		for i := range days {
			days[i] = -7
		}
		for i := range all {
			all[i].Code = "x"
		}
		Amount(f, "1", 12, 4700)
		Usable(f, "1", 12, 4700)
		if !sameFacts(f, kept) {
			t.Fatal("an argument was changed")
		}
	}
}
