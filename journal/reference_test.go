package journal

import (
	"fmt"
	"math/rand"
	"regexp"
	"slices"
	"strings"
	"testing"

	"treasury/api"
	"treasury/office"
)

// The limits are written out here as the document has them, so that a wrong one shows.
const (
	mostTotal   = 1000000000000000
	mostOffices = 6
	mostRecords = 400
)

// The year 12 has the days from 4320 to 4679.

const (
	codeForm  = `[1-9][0-9]?(?:\.[1-9][0-9]?){0,3}`
	yearForm  = `(?:0|[1-9][0-9]?)`
	totalForm = `(?:0|[1-9][0-9]{0,14}|1000000000000000)`
)

// textForm is a reference: what the text of a plain operation looks like.
var textForm = regexp.MustCompile(`\A(?:` + strings.NewReplacer("CODE", codeForm, "YEAR", yearForm, "N", totalForm).Replace(
	"reserve CODE YEAR N N|commit N N N N N|verify N N N|order N N|release N N|drop N N|return CODE YEAR N|hear CODE YEAR N N|returned N") + `)\z`)

// texts are texts of plain operations, with the operations.
func texts() map[string]api.Op {
	return map[string]api.Op{
		"reserve 1 12 4330 43":                {Kind: api.OpReserve, Code: "1", Year: 12, Day: 4330, Amount: 43},
		"reserve 99.99.99.99 99 0 0":          {Kind: api.OpReserve, Code: "99.99.99.99", Year: 99},
		"reserve 2.1 0 1000000000000000 1":    {Kind: api.OpReserve, Code: "2.1", Day: mostTotal, Amount: 1},
		"commit 1 4330 40 7 4400":             {Kind: api.OpCommit, Of: 1, Day: 4330, Amount: 40, Payee: 7, Due: 4400},
		"commit 0 0 0 0 0":                    {Kind: api.OpCommit},
		"commit 1 2 3 4 1000000000000000":     {Kind: api.OpCommit, Of: 1, Day: 2, Amount: 3, Payee: 4, Due: mostTotal},
		"verify 1 4340 25":                    {Kind: api.OpVerify, Of: 1, Day: 4340, Amount: 25},
		"verify 1000000000000000 0 0":         {Kind: api.OpVerify, Of: mostTotal},
		"order 1 4341":                        {Kind: api.OpOrder, Of: 1, Day: 4341},
		"order 0 999999999999999":             {Kind: api.OpOrder, Day: mostTotal - 1},
		"release 1 20":                        {Kind: api.OpRelease, Of: 1, Amount: 20},
		"release 0 0":                         {Kind: api.OpRelease},
		"drop 1 15":                           {Kind: api.OpDrop, Of: 1, Amount: 15},
		"drop 1000000000000000 1":             {Kind: api.OpDrop, Of: mostTotal, Amount: 1},
		"return 1 12 10":                      {Kind: api.OpReturn, Code: "1", Year: 12, Amount: 10},
		"return 1.10 9 1000000000000000":      {Kind: api.OpReturn, Code: "1.10", Year: 9, Amount: mostTotal},
		"hear 1 12 100 0":                     {Kind: api.OpHear, Code: "1", Year: 12, Granted: 100},
		"hear 1 12 0 1000000000000000":        {Kind: api.OpHear, Code: "1", Year: 12, AskedBack: mostTotal},
		"hear 1 0 1000000000000000 7":         {Kind: api.OpHear, Code: "1", Granted: mostTotal, AskedBack: 7},
		"returned 1":                          {Kind: api.OpReturned, Of: 1},
		"returned 0":                          {Kind: api.OpReturned},
		"reserve 1 12 123456789 987654321000": {Kind: api.OpReserve, Code: "1", Year: 12, Day: 123456789, Amount: 987654321000},
	}
}

// journalOf returns a journal with records that are written as texts, separated by semicolons, of which the first ones are flushed.
func journalOf(t *testing.T, number, flushed int, records string) api.Journal {
	t.Helper()
	j := api.Journal{Office: number, Flushed: flushed}
	for text := range strings.SplitSeq(records, "; ") {
		if text == "" {
			continue
		}
		op, e := Parse(text)
		if e != api.OK {
			t.Fatalf("%q is no operation", text)
		}
		j.Records = append(j.Records, op)
	}
	return j
}

// chain is records that are possible one after the other.
const chain = "hear 1 12 100 0; reserve 1 12 4330 60; commit 1 4331 40 7 4400; verify 1 4332 25; order 1 4333; returned 1; order 1 4334; drop 1 15; release 1 20; hear 1 12 100 30; return 1 12 30"

// stateOf is a reference: the office after some records, which must be possible.
func stateOf(t *testing.T, number int, records []api.Op) api.Office {
	t.Helper()
	o, e := office.New(number)
	for _, op := range records {
		if e == api.OK {
			o, e = office.Do(o, op)
		}
	}
	if e != api.OK {
		t.Fatalf("%v are not possible: error %d", records, e)
	}
	return o
}

func cloneOf(j api.Journal) api.Journal {
	j.Records = slices.Clone(j.Records)
	return j
}

// is fails unless a result is a journal without an error.
func is(t *testing.T, name string, got api.Journal, e api.Errno, want api.Journal) {
	t.Helper()
	if e != api.OK || !Same(got, want) || fmt.Sprint(got) != fmt.Sprint(want) {
		t.Errorf("%s: %v, error %d, not %v", name, got, e, want)
	}
}

// refused fails unless a result is an error alone.
func refused(t *testing.T, name string, got api.Journal, e, want api.Errno) {
	t.Helper()
	if e != want || got.Office != 0 || got.Records != nil || got.Flushed != 0 {
		t.Errorf("%s: %v, error %d, not %d", name, got, e, want)
	}
}

// randomOp returns an operation that is often possible.
func randomOp(r *rand.Rand, o api.Office) api.Op {
	of := func(n int) int { return 1 + r.Intn(n+1) }
	day, amount := 4320+r.Intn(360), 1+r.Intn(60)
	code := []string{"1", "2.1"}[r.Intn(2)]
	switch r.Intn(9) {
	case 0:
		return api.Op{Kind: api.OpHear, Code: code, Year: 12, Granted: r.Intn(400), AskedBack: r.Intn(100)}
	case 1:
		return api.Op{Kind: api.OpReserve, Code: code, Year: 12, Day: day, Amount: amount}
	case 2:
		return api.Op{Kind: api.OpCommit, Of: of(len(o.Book.Reservations)), Day: 4679, Amount: amount / 2, Payee: 1 + r.Intn(5), Due: day}
	case 3:
		return api.Op{Kind: api.OpVerify, Of: of(len(o.Book.Commitments)), Day: 4700, Amount: amount / 4}
	case 4:
		return api.Op{Kind: api.OpOrder, Of: of(len(o.Book.Verifications)), Day: 4710}
	case 5:
		return api.Op{Kind: api.OpRelease, Of: of(len(o.Book.Reservations)), Amount: amount / 6}
	case 6:
		return api.Op{Kind: api.OpDrop, Of: of(len(o.Book.Commitments)), Amount: amount / 8}
	case 7:
		return api.Op{Kind: api.OpReturned, Of: of(len(o.Book.Verifications))}
	}
	return api.Op{Kind: api.OpReturn, Code: code, Year: 12, Amount: amount}
}

// randomJournal returns a valid journal after so many attempts.
func randomJournal(t *testing.T, r *rand.Rand, attempts int) api.Journal {
	j, _ := New(1 + r.Intn(mostOffices))
	for range attempts {
		o, e := State(j)
		if e != api.OK {
			t.Fatalf("error %d of %v", e, j)
		}
		if next, e := Append(j, randomOp(r, o)); e == api.OK {
			j = next
		}
		if r.Intn(10) == 0 {
			j = Flush(j)
		}
	}
	return j
}
