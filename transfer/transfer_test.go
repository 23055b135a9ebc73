package transfer

import (
	"fmt"
	"math"
	"math/rand"
	"slices"
	"strings"
	"testing"

	"treasury/api"
	"treasury/budget"
	"treasury/classification"
)

func TestBadLists(t *testing.T) {
	for _, c := range badLists(t) {
		if codes, e := Judge(c.law, c.t); codes != nil || e != c.want {
			t.Errorf("%s: codes %v, error %d, not %d", c.name, codes, e, c.want)
		}
		if accepted, e := Accepted(c.law, c.t); accepted != nil || e != c.want {
			t.Errorf("%s: accepted %v, error %d, not %d", c.name, accepted, e, c.want)
		}
		if in, out, e := Moved(c.law, c.t, "1.1", 12, 9999); in != 0 || out != 0 || e != c.want {
			t.Errorf("%s: moved %d and %d, error %d, not %d", c.name, in, out, e, c.want)
		}
		for _, day := range []int{4330, -1} {
			if lines, e := Lines(c.law, c.t, day); lines != nil || e != c.want {
				t.Errorf("%s: lines %v, error %d, not %d", c.name, lines, e, c.want)
			}
		}
		for _, x := range []api.Transfer{{}, transferOf(9999, 1, 1, "1.1", "2", 12, 5)} {
			if n, e := Room(c.law, c.t, x); n != 0 || e != c.want {
				t.Errorf("%s: room %d, error %d, not %d", c.name, n, e, c.want)
			}
		}
	}
}

// P9.1

// judged fails unless transfers have some codes.
func judged(t *testing.T, name string, l api.Law, transfers []api.Transfer, want string) {
	t.Helper()
	codes, e := Judge(l, transfers)
	if got := texts(codes); got != want || e != api.OK {
		t.Errorf("%s: codes %s, error %d, not %s", name, got, e, want)
	}
	if got := texts(codesOf(l, transfers)); got != want {
		t.Errorf("%s: codes of the reference %s, not %s", name, got, want)
	}
}

func TestJudge(t *testing.T) {
	// transfers are written as "day number rule from to year amount".
	for _, c := range []struct{ name, law, transfers, want string }{
		{"no transfers", "line 2 12 5", "", ""},
		{"the example", "line 1.1 12 500; line 2 12 100; rule 1 1 2 10", "4320 1 1 1.1 2 12 50; 4320 2 1 1.1 2 12 1", "0 13"},
		{"a share rounded down", "line 1.1 12 99; rule 1 1 2 33", "1 1 1 1.1 2 12 33; 2 1 1 1.1 2 12 32; 3 1 1 1.1 2 12 1", "13 0 13"},
		{"all of a line", "line 1.1 12 99; rule 1 1 2 100", "1 1 1 1.1 2 12 99; 2 1 1 1.1 2 12 1", "0 13"},
		{"nothing of a line", "line 1.1 12 99; rule 1 1 2 0", "1 1 1 1.1 2 12 1", "13"},
		{"a line of 0", "rule 1 1 2 100", "1 1 1 1.1 2 12 1", "13"},
		{"the largest amount", "line 1.1 12 1000000000000; rule 1 1 2 100", "1 1 1 1.1 2 12 1000000000000", "0"},
		{"a share for each rule", "line 1.1 12 100; rule 1 1 2 60; rule 2 1.1 2 30", "1 1 1 1.1 2 12 60; 1 2 2 1.1 2 12 31; 1 3 2 1.1 2 12 30; 1 4 1 1.1 2 12 1", "0 13 0 13"},
		{"a share for each year", "line 1.1 12 100; line 1.1 13 50; rule 1 1 2 50", "1 1 1 1.1 2 12 50; 1 2 1 1.1 2 13 26; 1 3 1 1.1 2 13 25; 1 4 1 1.1 2 12 1", "0 13 0 13"},
		{"a share for each line", "line 1.1 12 100; line 1.2 12 50; rule 1 1 2 50", "1 1 1 1.1 2 12 50; 1 2 1 1.2 2 12 26; 1 3 1 1.2 2 12 25; 1 4 1 1.1 2 12 1", "0 13 0 13"},
		{"one share for all ends", "line 1.1 12 100; rule 1 1 3 50", "1 1 1 1.1 3.1.1 12 30; 1 2 1 1.1 3.1.2 12 21; 1 3 1 1.1 3.1.2 12 20", "0 13 0"},
		{"the share of a line, not of what it has", "line 1.1 12 100; line 2 12 100; rule 1 1 2 50; rule 2 2 1 100", "1 1 2 2 1.1 12 100; 1 2 1 1.1 2 12 51; 1 3 1 1.1 2 12 50", "0 13 0"},
		{"what is refused has no share", "line 1.1 12 100; rule 1 1 2 50", "1 1 1 1.1 2 12 51; 1 2 1 1.1 2 12 50", "13 0"},
		{"the share of the line in force", "line 1.1 12 100; rule 1 1 2 50; amend 12-01-11 1 line 1.1 12 200", "4329 1 1 1.1 2 12 51; 4329 2 1 1.1 2 12 50; 4330 1 1 1.1 2 12 51; 4330 2 1 1.1 2 12 50", "13 0 13 0"},
		{"the share of a line that has become less", "line 1.1 12 100; rule 1 1 2 50; amend 12-01-11 1 line 1.1 12 60", "4329 1 1 1.1 2 12 40; 4330 1 1 1.1 2 12 1", "0 13"},

		{"funds", "line 1.1 12 100; rule 1 1 2 100; rule 2 1 3 100", "1 1 1 1.1 2 12 70; 1 2 2 1.1 3.1.1 12 31; 1 3 2 1.1 3.1.1 12 30; 1 4 2 1.1 3.1.1 12 1", "0 15 0 15"},
		{"funds that came in", "line 1.1 12 100; line 2 12 50; rule 1 1 2 100; rule 2 1 3 100; rule 3 2 1 100", "1 1 1 1.1 2 12 100; 1 2 2 1.1 3.1.1 12 1; 1 3 3 2 1.1 12 20; 1 4 2 1.1 3.1.1 12 21; 1 5 2 1.1 3.1.1 12 20", "0 15 0 15 0"},
		{"funds of each year", "line 1.1 12 100; line 1.1 13 100; rule 1 1 2 100; rule 2 1 3 100", "1 1 1 1.1 2 12 100; 1 2 2 1.1 3.1.1 12 1; 1 3 2 1.1 3.1.1 13 100", "0 15 0"},
		{"funds of the law in force", "line 1.1 12 100; rule 1 1 2 100; rule 2 1 3 100; amend 12-01-11 1 line 1.1 12 90; amend 12-01-12 1 line 1.1 12 110", "4329 1 1 1.1 2 12 95; 4330 1 2 1.1 3.1.1 12 1; 4331 1 2 1.1 3.1.1 12 16; 4331 2 2 1.1 3.1.1 12 15", "0 15 15 0"},
		{"what is refused takes no funds", "line 1.1 12 100; rule 1 1 2 100; rule 2 1 3 100; ceiling 2 12 0", "1 1 1 1.1 2 12 100; 1 2 2 1.1 3.1.1 12 100", "14 0"},

		{"a rule that is not there", "line 1.1 12 100; rule 1 1 2 100; rule 3 1 2 100", "1 1 2 1.1 2 12 1; 1 2 4 1.1 2 12 1", "12 12"},
		{"not under From", "line 1.1 12 100; line 1.2 12 100; rule 1 1.1 2 100", "1 1 1 1.2 2 12 1; 1 2 1 1.1 2 12 1", "12 0"},
		{"not under To", "line 1.1 12 100; rule 1 1 3.1.1 100", "1 1 1 1.1 3.1.2 12 1; 1 2 1 1.1 3.1.1 12 1", "12 0"},
		{"the other way", "line 2 12 100; rule 1 1 2 100", "1 1 1 2 1.1 12 1", "12"},
		{"from what is over the code of a rule", "line 2 12 100; rule 1 2 3.1.1 100", "1 1 1 2 3.1.2 12 1", "12"},
		{"within one code", "line 1.1 12 100; rule 1 1 1 50", "1 1 1 1.1 1.2 12 50", "0"},
		{"the rule of the transfer, not another one", "line 1.1 12 100; rule 1 1 3 100; rule 2 1 2 10", "1 1 1 1.1 2 12 1; 1 2 2 1.1 2 12 11", "12 13"},

		{"a ceiling of the year", "line 1.1 12 100; line 2 12 30; rule 1 1 2 100; ceiling 2 12 50", "1 1 1 1.1 2 12 21; 1 2 1 1.1 2 12 20; 1 3 1 1.1 2 12 1", "14 0 14"},
		{"a ceiling of all years", "line 1.1 12 100; line 2 12 30; line 2 13 5; rule 1 1 2 100; ceiling 2 all 50", "1 1 1 1.1 2 12 16; 1 2 1 1.1 2 12 15; 1 3 1 1.1 2 12 1", "14 0 14"},
		{"a ceiling of all years, with transfers of another one", "line 1.1 12 100; line 1.1 13 100; rule 1 1 2 100; ceiling 2 all 50", "1 1 1 1.1 2 13 40; 1 2 1 1.1 2 12 11; 1 3 1 1.1 2 12 10", "0 14 0"},
		{"a ceiling of another year", "line 1.1 12 100; rule 1 1 2 100; ceiling 2 13 0", "1 1 1 1.1 2 12 100", "0"},
		{"a ceiling over To", "line 1.1 12 100; line 3.1.1 12 7; rule 1 1 3 100; ceiling 3 12 20", "1 1 1 1.1 3.1.2 12 14; 1 2 1 1.1 3.1.2 12 13", "14 0"},
		{"a ceiling over both ends", "line 3.1.1 12 30; rule 1 3 3 100; ceiling 3 12 20; ceiling 3.1 all 1", "1 1 1 3.1.1 3.1.2 12 30", "0"},
		{"a ceiling over From", "line 1.1 12 100; rule 1 1 2 100; ceiling 1 12 5", "1 1 1 1.1 2 12 20", "0"},
		{"a ceiling over none of them", "line 1.1 12 100; line 3.1.1 12 9; rule 1 1 2 100; ceiling 3 12 5", "1 1 1 1.1 2 12 20", "0"},
		{"a ceiling that was exceeded before", "line 1.1 12 100; line 2 12 30; rule 1 1 2 100; ceiling 2 12 29", "1 1 1 1.1 2 12 1", "14"},
		{"a ceiling in force", "line 1.1 12 100; rule 1 1 2 100; ceiling 2 12 10; amend 12-01-11 1 ceiling 2 12 20; amend 12-01-12 1 ceiling 2 12 none; amend 12-01-12 1 ceiling 2 all 25", "4329 1 1 1.1 2 12 11; 4330 1 1 1.1 2 12 21; 4330 2 1 1.1 2 12 20; 4331 1 1 1.1 2 12 6; 4331 2 1 1.1 2 12 5", "14 14 0 14 0"},
		{"a floor of the year", "line 1.1 12 100; rule 1 1 2 100; floor 1 12 80", "1 1 1 1.1 2 12 21; 1 2 1 1.1 2 12 20; 1 3 1 1.1 2 12 1", "14 0 14"},
		{"a floor of all years", "line 1.1 12 100; line 1.2 13 5; rule 1 1 2 100; floor 1 all 80", "1 1 1 1.1 2 12 26; 1 2 1 1.1 2 12 25", "14 0"},
		{"a floor of another year", "line 1.1 12 100; rule 1 1 2 100; floor 1 13 80", "1 1 1 1.1 2 12 100", "0"},
		{"a floor over both ends", "line 3.1.1 12 30; rule 1 3 3 100; floor 3 12 30; floor 3.1 all 40", "1 1 1 3.1.1 3.1.2 12 30", "0"},
		{"a floor over To", "line 1.1 12 100; rule 1 1 2 100; floor 2 12 500", "1 1 1 1.1 2 12 20", "0"},
		{"a floor that was not reached before", "line 1.1 12 100; rule 1 1 2 100; floor 1 12 101", "1 1 1 1.1 2 12 1", "14"},
		{"a floor in force", "line 1.1 12 100; rule 1 1 2 100; amend 12-01-11 1 floor 1.1 12 70", "4329 1 1 1.1 2 12 5; 4330 1 1 1.1 2 12 26; 4330 2 1 1.1 2 12 25", "0 14 0"},
		{"a bound of the leaf itself", "line 1.1 12 100; line 2 12 5; rule 1 1 1 100; ceiling 1.2 12 4; floor 1.1 12 97", "1 1 1 1.1 1.2 12 5; 1 2 1 1.1 1.2 12 4; 1 3 1 1.1 1.2 12 3", "14 14 0"},

		{"limits", "line 1.1 12 100; rule 1 1 2 100; rule 1000000 1 2 100", "0 1 1 1.1 2 12 1; 0 1000000 1000000 1.1 2 12 1", "0 0"},
		{"a number of 0", "line 1.1 12 100; rule 1 1 2 100", "1 0 1 1.1 2 12 1", "2"},
		{"a number too large", "line 1.1 12 100; rule 1 1 2 100", "1 1000001 1 1.1 2 12 1", "2"},
		{"a rule of 0", "line 1.1 12 100; rule 1 1 2 100", "1 1 0 1.1 2 12 1", "2"},
		{"a rule too large", "line 1.1 12 100; rule 1 1 2 100", "1 1 1000001 1.1 2 12 1", "2"},
		{"a day below 0", "line 1.1 12 100; rule 1 1 2 100", "-1 1 1 1.1 2 12 1", "2"},
		{"a day too large", "line 1.1 12 100; rule 1 1 2 100", "35990 1 1 1.1 2 12 1; 35991 1 1 1.1 2 12 1", "16 2"},
		{"an amount of 0", "line 1.1 12 100; rule 1 1 2 100", "1 1 1 1.1 2 12 0", "2"},
		{"an amount too large", "line 1.1 12 100; rule 1 1 2 100", "1 1 1 1.1 2 12 1000000000001; 1 2 1 1.1 2 12 1000000000000", "2 13"},
		{"the ends of numbers", "line 1.1 12 100; rule 1 1 2 100", "-9223372036854775808 9223372036854775807 1 1.1 2 12 9223372036854775807", "2"},
		{"from no leaf", "line 1.1 12 100; rule 1 1 2 100", "1 1 1 1 2 12 1; 1 2 1 4 2 12 1; 1 3 1 01.1 2 12 1", "5 5 5"},
		{"to no leaf", "line 1.1 12 100; rule 1 1 2 100", "1 1 1 1.1 3.1 12 1; 1 2 1 1.1 2.1 12 1; 1 3 1 1.1 x 12 1", "5 5 5"},
		{"to itself", "line 1.1 12 100; rule 1 1 1 100", "1 1 1 1.1 1.1 12 1", "5"},
		{"another year", "line 1.1 12 100; rule 1 1 2 100", "1 1 1 1.1 2 11 1; 1 2 1 1.1 2 14 1; 1 3 1 1.1 2 -1 1", "16 16 16"},
		{"a year that is over", "line 1.1 12 100; line 1.1 13 100; rule 1 1 2 100", "4679 1 1 1.1 2 12 1; 4680 1 1 1.1 2 12 1; 4680 2 1 1.1 2 13 1; 5039 1 1 1.1 2 13 1; 5040 1 1 1.1 2 13 1", "0 16 0 0 16"},
		{"ranges ahead of codes", "rule 1 1 2 100", "1 1 1 1 1 11 0", "2"},
		{"codes ahead of years", "rule 1 1 2 100", "1 1 2 1 1 11 1", "5"},
		{"years ahead of rules", "rule 1 1 2 100", "1 1 2 1.1 2 11 1", "16"},
		{"rules ahead of shares", "rule 1 1 2 100", "1 1 2 1.1 2 12 1", "12"},
		{"shares ahead of funds", "line 1.1 12 100; rule 1 1 2 100; rule 2 1 2 99; ceiling 2 12 100", "1 1 1 1.1 2 12 100; 1 2 2 1.1 2 12 100", "0 13"},
		{"funds ahead of bounds", "line 1.1 12 100; rule 1 1 2 100; rule 2 1 2 99; ceiling 2 12 100", "1 1 1 1.1 2 12 100; 1 2 2 1.1 2 12 99", "0 15"},
	} {
		judged(t, c.name, lawOf(t, c.law), transfersOf(t, c.transfers), c.want)
	}
}

// transfersOf returns transfers that are written as "day number rule from to year amount", separated by semicolons.
func transfersOf(t *testing.T, text string) []api.Transfer {
	t.Helper()
	var l []api.Transfer
	for words := range strings.SplitSeq(text, "; ") {
		var x api.Transfer
		if words == "" {
			continue
		}
		if _, e := fmt.Sscan(words, &x.Day, &x.Number, &x.Rule, &x.From, &x.To, &x.Year, &x.Amount); e != nil {
			t.Fatalf("%q is no transfer: %v", words, e)
		}
		l = append(l, x)
	}
	return l
}

func TestJudgeWithTextsThatAreNoCodes(t *testing.T) {
	l := lawOf(t, "line 1.1 12 100; rule 1 1 2 100")
	for _, text := range []string{"", ".", "1.1\n", "1.1.", "\xff", "1.100"} {
		judged(t, text, l, []api.Transfer{transferOf(1, 1, 1, text, "2", 12, 1), transferOf(1, 2, 1, "1.1", text, 12, 1), transferOf(1, 3, 1, text, text, 12, 1)}, "5 5 5")
	}
}

// crowded is a law that an amendment on the day 4330 makes too large, and another one on the day 4331 not any more.
func crowded() api.Law {
	l := api.Law{First: 12, Years: 4}
	for i := 1; i <= 40; i++ {
		l.Tree = append(l.Tree, api.Heading{Code: fmt.Sprint(i), Name: "n"})
	}
	for i := range 120 {
		l.Lines = append(l.Lines, lineOf(fmt.Sprint(1+i/4), 12+i%4, 100))
	}
	l.Rules = []api.Rule{{Number: 1, From: "1", To: "2", Percent: 100}}
	for i, amount := range []int{5, 0} {
		change := api.Change{Kind: api.ChangeLine, Code: "40", Year: 15, Amount: amount}
		l.Amendments = append(l.Amendments, api.Amendment{Day: 4330 + i, Number: 1, Changes: []api.Change{change}})
	}
	return l
}

func TestJudgeOfALawThatGetsTooLarge(t *testing.T) {
	l := crowded()
	judged(t, "while it is too large", l, transfersOf(t, "4329 1 1 1 2 12 10; 4330 1 1 1 2 12 10; 4330 2 9 1 2 12 10; 4330 3 1 1 2 11 10; 4331 1 1 1 2 12 10"), "0 3 3 16 0")
	if lines, e := Lines(l, nil, 4330); lines != nil || e != api.ErrLimit {
		t.Errorf("lines %v, error %d", lines, e)
	}
	if lines, e := Lines(l, nil, 4331); len(lines) != 120 || e != api.OK {
		t.Errorf("%d lines, error %d", len(lines), e)
	}
	if n, e := Room(l, nil, transferOf(4330, 1, 1, "1", "2", 12, 10)); n != 0 || e != api.OK {
		t.Errorf("room %d, error %d", n, e)
	}
	if n, e := Room(l, nil, transferOf(4331, 1, 1, "1", "2", 12, 10)); n != 100 || e != api.OK {
		t.Errorf("room %d, error %d", n, e)
	}
}

func TestMostTransfers(t *testing.T) {
	l := lawOf(t, "line 1.1 12 1000000000000; rule 1 1 2 100")
	var transfers []api.Transfer
	for i := range 61 {
		transfers = append(transfers, transferOf(1, 1+i, 1, "1.1", "2", 12, mostAmount/60))
	}
	judged(t, "60 transfers", l, transfers[:60], texts(make([]api.Errno, 60)))
	if codes, e := Judge(l, transfers); codes != nil || e != api.ErrLimit {
		t.Errorf("61 transfers: codes %v, error %d", codes, e)
	}
	if n, e := Room(l, transfers[:59], transfers[59]); n != mostAmount-59*(mostAmount/60) || e != api.OK {
		t.Errorf("59 transfers: room %d, error %d", n, e)
	}
	if n, e := Room(l, transfers[:60], transfers[60]); n != 0 || e != api.ErrLimit {
		t.Errorf("60 transfers: room %d, error %d", n, e)
	}
	if n, e := Room(l, transfers[:60], transfers[59]); n != 0 || e != api.ErrOrder {
		t.Errorf("60 transfers, and one out of order: room %d, error %d", n, e)
	}
}

func TestJudgeOfRandomTransfers(t *testing.T) {
	r := rand.New(rand.NewSource(91))
	count := map[api.Errno]int{}
	for range 1500 {
		l := randomLaw(r)
		transfers := randomTransfers(r, l, r.Intn(61))
		codes, e := Judge(l, transfers)
		want := codesOf(l, transfers)
		if e != api.OK || !slices.Equal(codes, want) {
			t.Fatalf("codes %v, error %d, not %v of %v\n%s", codes, e, want, transfers, budget.Text(l))
		}
		for _, code := range codes {
			count[code]++
		}
	}
	for _, code := range []api.Errno{api.OK, api.ErrRange, api.ErrCode, api.ErrYear, api.ErrRule, api.ErrShare, api.ErrFunds, api.ErrBound} {
		if count[code] < 50 {
			t.Errorf("code %d: %d times", code, count[code])
		}
	}
}

// P9.2

func TestAccepted(t *testing.T) {
	l := lawOf(t, "line 1.1 12 500; line 2 12 100; rule 1 1 2 10")
	transfers := transfersOf(t, "1 1 1 1.1 2 12 30; 1 2 1 1.1 2 12 21; 1 3 2 1.1 2 12 1; 2 1 1 1.1 2 12 20; 2 2 1 1.1 2 12 1")
	accepted, e := Accepted(l, transfers)
	if want := []api.Transfer{transfers[0], transfers[3]}; !slices.Equal(accepted, want) || e != api.OK {
		t.Errorf("%v, error %d, not %v", accepted, e, want)
	}
	for _, none := range [][]api.Transfer{nil, {}, transfers[1:1], transfers[2:3]} {
		if accepted, e := Accepted(l, none); len(accepted) != 0 || e != api.OK {
			t.Errorf("%v, error %d, of %v", accepted, e, none)
		}
	}
}

func TestMoved(t *testing.T) {
	l := lawOf(t, "line 1.1 12 500; line 1.1 13 500; line 2 12 100; rule 1 1 2 100; rule 2 2 1 50")
	transfers := transfersOf(t, "10 1 1 1.1 2 12 30; 10 2 1 1.1 2 12 600; 10 3 2 2 1.1 12 7; 20 1 1 1.1 2 13 4; 20 2 1 1.1 2 12 9; 30 1 2 2 1.2 12 1")
	for _, c := range []struct {
		code               string
		year, day, in, out int
	}{
		{"1.1", 12, 9, 0, 0}, {"1.1", 12, 10, 7, 30}, {"1.1", 12, 19, 7, 30}, {"1.1", 12, 20, 7, 39}, {"1.1", 12, 30, 7, 39},
		{"2", 12, 10, 30, 7}, {"2", 12, 20, 39, 7}, {"2", 12, 29, 39, 7}, {"2", 12, 30, 39, 8},
		{"1.1", 13, 19, 0, 0}, {"1.1", 13, 20, 0, 4}, {"2", 13, 20, 4, 0}, {"1.2", 12, 30, 1, 0}, {"1.2", 13, 30, 0, 0},
		{"1.1", 12, math.MaxInt, 7, 39}, {"1.1", 12, math.MinInt, 0, 0}, {"1.1", 12, -1, 0, 0},
		{"1", 12, 30, 0, 0}, {"", 12, 30, 0, 0}, {"x", 12, 30, 0, 0}, {"1.1", -1, 30, 0, 0}, {"1.1", 14, 30, 0, 0}, {"1.1", math.MinInt, 30, 0, 0},
	} {
		in, out, e := Moved(l, transfers, c.code, c.year, c.day)
		if in != c.in || out != c.out || e != api.OK {
			t.Errorf("%q in %d until %d: %d and %d, error %d, not %d and %d", c.code, c.year, c.day, in, out, e, c.in, c.out)
		}
	}
}

func TestLines(t *testing.T) {
	l := lawOf(t, "line 1.1 12 500; line 1.2 13 0; line 2 12 100; line 3.1.2 13 9; rule 1 1 2 100; rule 2 2 3 100; "+
		"amend 12-01-11 1 line 1.1 12 20; amend 12-01-11 1 line 2 12 0; amend 12-01-21 1 line 1.2 13 8")
	transfers := transfersOf(t, "4325 1 1 1.1 2 12 30; 4325 2 1 1.1 2 12 600; 4326 1 2 2 3.1.1 12 100; 4335 1 1 1.1 2 12 1")
	for _, c := range []struct {
		day  int
		want []api.Line
	}{
		{0, []api.Line{lineOf("1.1", 12, 500), lineOf("2", 12, 100), lineOf("3.1.2", 13, 9)}},
		{4324, []api.Line{lineOf("1.1", 12, 500), lineOf("2", 12, 100), lineOf("3.1.2", 13, 9)}},
		{4325, []api.Line{lineOf("1.1", 12, 470), lineOf("2", 12, 130), lineOf("3.1.2", 13, 9)}},
		{4326, []api.Line{lineOf("1.1", 12, 470), lineOf("2", 12, 30), lineOf("3.1.1", 12, 100), lineOf("3.1.2", 13, 9)}},
		{4330, []api.Line{lineOf("1.1", 12, -10), lineOf("2", 12, -70), lineOf("3.1.1", 12, 100), lineOf("3.1.2", 13, 9)}},
		{4340, []api.Line{lineOf("1.1", 12, -10), lineOf("1.2", 13, 8), lineOf("2", 12, -70), lineOf("3.1.1", 12, 100), lineOf("3.1.2", 13, 9)}},
		{36000, []api.Line{lineOf("1.1", 12, -10), lineOf("1.2", 13, 8), lineOf("2", 12, -70), lineOf("3.1.1", 12, 100), lineOf("3.1.2", 13, 9)}},
	} {
		lines, e := Lines(l, transfers, c.day)
		if !slices.Equal(lines, c.want) || e != api.OK {
			t.Errorf("day %d: %v, error %d, not %v", c.day, lines, e, c.want)
		}
	}
	for _, day := range []int{-1, 36001, math.MinInt, math.MaxInt} {
		if lines, e := Lines(l, transfers, day); lines != nil || e != api.ErrRange {
			t.Errorf("day %d: %v, error %d", day, lines, e)
		}
	}
	if lines, e := Lines(api.Law{Years: 1}, nil, 0); len(lines) != 0 || e != api.OK {
		t.Errorf("of a law without codes: %v, error %d", lines, e)
	}
	// What a transfer has taken to exactly 0 is no line.
	l = lawOf(t, "line 1.1 12 500; rule 1 1 2 100")
	if lines, e := Lines(l, transfersOf(t, "1 1 1 1.1 2 12 500"), 1); !slices.Equal(lines, []api.Line{lineOf("2", 12, 500)}) || e != api.OK {
		t.Errorf("all of a line: %v, error %d", lines, e)
	}
}

func TestRandomTransfersMoveLines(t *testing.T) {
	r := rand.New(rand.NewSource(92))
	for range 400 {
		l := randomLaw(r)
		transfers := randomTransfers(r, l, r.Intn(40))
		want := acceptedOf(transfers, codesOf(l, transfers))
		accepted, e := Accepted(l, transfers)
		if e != api.OK || !slices.Equal(accepted, want) {
			t.Fatalf("accepted %v, error %d, not %v", accepted, e, want)
		}
		day := 4290 + r.Intn(500)
		lines, e := Lines(l, transfers, day)
		moved := linesOf(t, l, want, day)
		if e != api.OK || !slices.Equal(lines, moved) {
			t.Fatalf("lines %v, error %d, not %v", lines, e, moved)
		}
		sums(t, l, accepted, lines, day)
	}
}

// linesOf is a reference: the lines with transfers until a day.
func linesOf(t *testing.T, l api.Law, accepted []api.Transfer, day int) []api.Line {
	lines, e := Lines(l, nil, day)
	if e != api.OK {
		t.Fatalf("lines without transfers: error %d", e)
	}
	force := l
	force.Lines = lines
	return slices.DeleteFunc(haveOf(force, accepted, day), func(x api.Line) bool { return x.Amount == 0 })
}

// sums fails if transfers have changed a sum over all leaves, or under a code that has both ends of all of them.
func sums(t *testing.T, l api.Law, accepted []api.Transfer, lines []api.Line, day int) {
	t.Helper()
	before, _ := Lines(l, nil, day)
	for _, h := range append(slices.Clone(l.Tree), api.Heading{}) {
		crosses := func(x api.Transfer) bool {
			return h.Code != "" && classification.Under(x.From, h.Code) != classification.Under(x.To, h.Code)
		}
		if slices.ContainsFunc(accepted, crosses) {
			continue
		}
		for _, year := range []int{-1, 12, 13} {
			x, _ := classification.Sum(before, h.Code, year)
			if y, _ := classification.Sum(lines, h.Code, year); x != y {
				t.Errorf("transfers make %d of %d under %q in %d", y, x, h.Code, year)
			}
		}
	}
}

// P9.3

func TestRoom(t *testing.T) {
	for _, c := range []struct {
		name, law, transfers, x string
		want                    int
		e                       api.Errno
	}{
		{"the share", "line 1.1 12 500; rule 1 1 2 10", "", "100 1 1 1.1 2 12 0", 50, api.OK},
		{"the rest of the share", "line 1.1 12 500; rule 1 1 2 10", "99 1 1 1.1 2 12 20", "100 1 1 1.1 2 12 0", 30, api.OK},
		{"no rest", "line 1.1 12 500; rule 1 1 2 10", "99 1 1 1.1 2 12 50", "100 1 1 1.1 2 12 0", 0, api.OK},
		{"less than no rest", "line 1.1 12 500; rule 1 1 2 10; amend 12-01-01 1 line 1.1 12 400", "99 1 1 1.1 2 12 50", "4320 1 1 1.1 2 12 0", 0, api.OK},
		{"the funds", "line 1.1 12 500; rule 1 1 2 100; rule 2 1 3 90", "99 1 2 1.1 3.1.1 12 430", "100 1 1 1.1 2 12 0", 70, api.OK},
		{"a ceiling", "line 1.1 12 500; line 2 12 30; rule 1 1 2 100; ceiling 2 12 45", "", "100 1 1 1.1 2 12 0", 15, api.OK},
		{"a ceiling that is exceeded", "line 1.1 12 500; line 2 12 30; rule 1 1 2 100; ceiling 2 12 25", "", "100 1 1 1.1 2 12 0", 0, api.OK},
		{"the lowest of ceilings", "line 1.1 12 500; rule 1 1 3 100; ceiling 3 12 45; ceiling 3.1 all 40; ceiling 3.1.1 12 50", "", "100 1 1 1.1 3.1.1 12 0", 40, api.OK},
		{"a floor", "line 1.1 12 500; line 1.2 12 5; rule 1 1 2 100; floor 1 all 480", "", "100 1 1 1.1 2 12 0", 25, api.OK},
		{"all of the largest line", "line 1.1 12 1000000000000; rule 1 1 2 100", "", "100 1 1 1.1 2 12 0", mostAmount, api.OK},
		{"of two funds no more than the share", "line 1.1 12 1000000000000; line 2 12 1000000000000; rule 1 1 2 100; rule 2 2 1 100", "99 1 2 2 1.1 12 1000000000000", "100 1 1 1.1 2 12 0", mostAmount, api.OK},
		{"what is refused does not count", "line 1.1 12 500; rule 1 1 2 10", "99 1 1 1.1 2 12 51", "100 1 1 1.1 2 12 0", 50, api.OK},
		{"the amount does not matter", "line 1.1 12 500; rule 1 1 2 10", "", "100 1 1 1.1 2 12 51", 50, api.OK},
		{"the amount does not matter, if it is none", "line 1.1 12 500; rule 1 1 2 10", "", "100 1 1 1.1 2 12 -9223372036854775808", 50, api.OK},
		{"a later number of the day", "line 1.1 12 500; rule 1 1 2 10", "100 7 1 1.1 2 12 20", "100 8 1 1.1 2 12 0", 30, api.OK},
		{"a number that is none", "line 1.1 12 500; rule 1 1 2 10", "", "100 0 1 1.1 2 12 0", 0, api.OK},
		{"a rule that is none", "line 1.1 12 500; rule 1 1 2 10", "", "100 1 1000001 1.1 2 12 0", 0, api.OK},
		{"a day too large", "line 1.1 12 500; rule 1 1 2 10", "100 1 1 1.1 2 12 20", "35991 1 1 1.1 2 12 0", 0, api.OK},
		{"a day below 0", "line 1.1 12 500; rule 1 1 2 10", "", "-1 1 1 1.1 2 12 0", 0, api.OK},
		{"no leaf", "line 1.1 12 500; rule 1 1 2 10", "", "100 1 1 1 2 12 0", 0, api.OK},
		{"to itself", "line 1.1 12 500; rule 1 1 1 10", "", "100 1 1 1.1 1.1 12 0", 0, api.OK},
		{"another year", "line 1.1 12 500; rule 1 1 2 10", "", "100 1 1 1.1 2 14 0", 0, api.OK},
		{"a year that is over", "line 1.1 12 500; rule 1 1 2 10", "", "4680 1 1 1.1 2 12 0", 0, api.OK},
		{"no rule", "line 1.1 12 500; rule 1 1 2 10", "", "100 1 2 1.1 2 12 0", 0, api.OK},
		{"the last one again", "line 1.1 12 500; rule 1 1 2 10", "100 7 1 1.1 2 12 20", "100 7 1 1.1 2 12 0", 0, api.ErrOrder},
		{"a smaller number of the day", "line 1.1 12 500; rule 1 1 2 10", "100 7 1 1.1 2 12 20", "100 6 1 1.1 2 12 0", 0, api.ErrOrder},
		{"an earlier day", "line 1.1 12 500; rule 1 1 2 10", "100 7 1 1.1 2 12 20", "99 8 1 1.1 2 12 0", 0, api.ErrOrder},
		{"an earlier day that is none", "line 1.1 12 500; rule 1 1 2 10", "100 7 1 1.1 2 12 20", "-5 0 0 1 1 12 0", 0, api.ErrOrder},
		{"behind one that is refused", "line 1.1 12 500; rule 1 1 2 10", "100 7 1 1.1 2 12 51", "100 6 1 1.1 2 12 0", 0, api.ErrOrder},
	} {
		l, transfers, x := lawOf(t, c.law), transfersOf(t, c.transfers), transfersOf(t, c.x)[0]
		if n, e := Room(l, transfers, x); n != c.want || e != c.e {
			t.Errorf("%s: %d, error %d, not %d, error %d", c.name, n, e, c.want, c.e)
		}
	}
}

func TestRoomOfRandomTransfers(t *testing.T) {
	r := rand.New(rand.NewSource(93))
	some := 0
	for range 1500 {
		l := randomLaw(r)
		all := randomTransfers(r, l, 1+r.Intn(30))
		transfers, x := all[:len(all)-1], all[len(all)-1]
		n, e := Room(l, transfers, x)
		if e != api.OK {
			t.Fatalf("room of %v behind %v: error %d", x, transfers, e)
		}
		with := func(amount int) api.Errno {
			x.Amount = amount
			codes := codesOf(l, append(slices.Clone(transfers), x))
			return codes[len(codes)-1]
		}
		if n > 0 && with(n) != api.OK || with(n+1) == api.OK || with(n+2) == api.OK || with(2*n+1) == api.OK {
			t.Fatalf("room of %v behind %v: %d\n%s", x, transfers, n, budget.Text(l))
		}
		if n > 0 {
			some++
		}
	}
	if some < 300 || some > 1300 {
		t.Errorf("room for %d of 1500", some)
	}
}

// The consequences, and P1

func TestTransferCutIntoTwo(t *testing.T) {
	r := rand.New(rand.NewSource(94))
	cut := 0
	for range 400 {
		l := randomLaw(r)
		transfers := randomTransfers(r, l, 1+r.Intn(30))
		for i := range transfers {
			transfers[i].Number *= 2
		}
		codes, _ := Judge(l, transfers)
		i := r.Intn(len(transfers))
		if codes[i] != api.OK || transfers[i].Amount < 2 {
			continue
		}
		cut++
		part := transfers[i]
		part.Number++
		part.Amount = 1 + r.Intn(part.Amount-1)
		transfers[i].Amount -= part.Amount
		got, e := Judge(l, slices.Insert(transfers, i+1, part))
		if want := slices.Insert(codes, i+1, api.OK); e != api.OK || !slices.Equal(got, want) {
			t.Fatalf("codes %v, error %d, not %v", got, e, want)
		}
	}
	if cut < 50 {
		t.Errorf("%d transfers were cut", cut)
	}
}

func TestNobodyGivesMoreThanItHas(t *testing.T) {
	r := rand.New(rand.NewSource(95))
	for range 400 {
		l := randomLaw(r)
		l.Amendments = nil
		transfers := randomTransfers(r, l, r.Intn(40))
		lines, e := Lines(l, transfers, lastDay)
		if e != api.OK || slices.ContainsFunc(lines, func(x api.Line) bool { return x.Amount < 0 }) {
			t.Fatalf("lines %v, error %d", lines, e)
		}
	}
}

func TestArgumentsStayAsTheyAre(t *testing.T) {
	r := rand.New(rand.NewSource(96))
	for range 100 {
		l := randomLaw(r)
		transfers := randomTransfers(r, l, 1+r.Intn(20))
		law, list := copyOf(l), slices.Clone(transfers)
		Judge(l, transfers)
		accepted, _ := Accepted(l, transfers)
		lines, _ := Lines(l, transfers, 4400)
		Moved(l, transfers, "1.1", 12, 4400)
		Room(l, transfers[:len(transfers)-1], transfers[len(transfers)-1])
		clear(accepted)
		clear(lines)
		if !budget.Same(l, law) || !slices.Equal(transfers, list) {
			t.Fatal("an argument was changed, or a result shares its memory")
		}
	}
}
