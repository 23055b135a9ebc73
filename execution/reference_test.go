package execution

import (
	"fmt"
	"math/rand"
	"slices"
	"strings"
	"testing"

	"treasury/api"
	"treasury/available"
	"treasury/budget"
	"treasury/journal"
	"treasury/network"
)

// The limits are written out here as the document has them, so that a wrong one shows.
const (
	mostAmount = 1000000000000
	mostTotal  = 1000000000000000
)

// base is a law without lines. Its first day is 4320, that of its second year is 4680.
const base = `years 12 2
heading 1 schools
heading 1.1 teachers
heading 1.2 houses
heading 2 roads
heading 9 revenue
`

var leaves = []string{"1.1", "1.2", "2", "9"}

// factsOf returns facts with the base and more articles, separated by semicolons.
func factsOf(t *testing.T, articles string) api.Facts {
	t.Helper()
	l, n, e := budget.Parse(base + strings.ReplaceAll(articles, "; ", "\n"))
	if e != api.OK {
		t.Fatalf("%q is no law: line %d, error %d", articles, n, e)
	}
	return api.Facts{Law: l}
}

// stepOf returns a step for a code in the year 12.
func stepOf(kind, office int, code string, amount int) api.Step {
	return api.Step{Kind: kind, Office: office, Code: code, Year: 12, Amount: amount}
}

// opsOf returns the steps in which an office does what texts say.
func opsOf(t *testing.T, office int, texts ...string) []api.Step {
	t.Helper()
	var steps []api.Step
	for _, text := range texts {
		op, e := journal.Parse(text)
		if e != api.OK {
			t.Fatalf("%q is no operation", text)
		}
		steps = append(steps, api.Step{Kind: api.StepDo, Office: office, Op: op})
	}
	return steps
}

// worldOf returns what becomes of a new world of offices by steps, which must be possible.
func worldOf(t *testing.T, offices int, steps ...api.Step) api.World {
	t.Helper()
	w, codes, e := network.Run(offices, steps)
	if i := slices.IndexFunc(codes, func(e api.Errno) bool { return e != api.OK }); e != api.OK || i >= 0 {
		t.Fatalf("error %d, step %d of %v", e, i, codes)
	}
	return w
}

// granted returns the steps by which an office gets a part of a pot.
func granted(office int, code string, amount int) []api.Step {
	return []api.Step{stepOf(api.StepGrant, office, code, amount), stepOf(api.StepTell, office, code, 0), {Kind: api.StepDeliver}}
}

// rowOf returns a row: its numbers are the line, the appropriation, out, reserved, committed, verified, ordered, and the shortfall.
func rowOf(code string, year int, n ...int) api.Row {
	return api.Row{Code: code, Year: year, Line: n[0], Appropriation: n[1], Out: n[2], Reserved: n[3], Committed: n[4], Verified: n[5], Ordered: n[6], Shortfall: n[7]}
}

// numbersOf returns the numbers of a row, for references.
func numbersOf(r api.Row) []int {
	return []int{r.Line, r.Appropriation, r.Out, r.Reserved, r.Committed, r.Verified, r.Ordered, r.Shortfall}
}

// badFacts are facts, worlds, years and days with an error of Rows.
func badFacts(t *testing.T) []struct {
	name      string
	f         api.Facts
	w         api.World
	year, day int
	want      api.Errno
} {
	f := factsOf(t, "line 1.1 12 500")
	w := worldOf(t, 1, stepOf(api.StepTotal, 0, "1.1", 500))
	lines, carried := factsOf(t, "line 1.1 12 500"), f
	lines.Law.Lines[0].Year = 11
	carried.Carried = make([]api.Carry, 61)
	mute := worldOf(t, 1, stepOf(api.StepTotal, 0, "1.1", 500))
	mute.Treasury.Pots[0].Used[0] = -1
	return []struct {
		name      string
		f         api.Facts
		w         api.World
		year, day int
		want      api.Errno
	}{
		{"no facts", api.Facts{}, w, 12, 4679, api.ErrRange},
		{"a line of another year", lines, w, 12, 4679, api.ErrYear},
		{"too much carried", carried, w, 12, 4679, api.ErrLimit},
		{"facts ahead of the world", lines, mute, 12, 4679, api.ErrYear},
		{"no world", f, api.World{}, 12, 4679, api.ErrInvalid},
		{"a world that is not valid", f, mute, 12, 4679, api.ErrInvalid},
		{"the world ahead of the year", f, mute, 11, -1, api.ErrInvalid},
		{"the year before", f, w, 11, 4679, api.ErrYear},
		{"the year behind", f, w, 14, 4679, api.ErrYear},
		{"all years", f, w, -1, -1, api.ErrYear},
		{"a day below 0", f, w, 12, -1, api.ErrRange},
		{"a day too large", f, w, 12, 36001, api.ErrRange},
		{"too many lines in force", crowdedFacts(t), w, 12, 4679, api.ErrLimit},
	}
}

// crowdedFacts returns facts in which an amendment on the day 4330 adds more lines than there may be.
func crowdedFacts(t *testing.T) api.Facts {
	l := api.Law{First: 12, Years: 4}
	for i := range 31 {
		code := fmt.Sprint(i + 1)
		l.Tree = append(l.Tree, api.Heading{Code: code, Name: "x"})
		for year := 12; year < 16 && len(l.Lines) < 120; year++ {
			l.Lines = append(l.Lines, api.Line{Code: code, Year: year, Amount: 1})
		}
	}
	l.Amendments = []api.Amendment{{Day: 4330, Number: 1, Changes: []api.Change{{Kind: api.ChangeLine, Code: "31", Year: 12, Amount: 1}}}}
	f := api.Facts{Law: l}
	if e := available.Check(f); e != api.OK {
		t.Fatalf("error %d", e)
	}
	return f
}

// randomFacts returns facts whose appropriations rise and fall.
func randomFacts(t *testing.T, r *rand.Rand) api.Facts {
	f := factsOf(t, "line 1.1 12 200; line 1.1 13 90; line 1.2 12 150; line 2 12 100; earmark 9 2 50; wait 1.2 12 60 12-04-01; reach 2 12 30 9 100; amend 12-03-01 1 line 1.1 12 80; amend 12-06-01 1 line 1.2 12 0")
	for i := range r.Intn(8) {
		f.Receipts = append(f.Receipts, api.Receipt{Day: 4320 + 30*i, Number: 1, Code: "9", Amount: 1 + r.Intn(70)})
		f.Carried = append(f.Carried, api.Carry{Day: 4320 + 30*i, Number: 1, Code: leaves[r.Intn(3)], Year: 12, Amount: 7 - 20*r.Intn(2)})
	}
	return f
}

// randomWorld returns a world after random steps for the leaves of the base and one that is not there, in the year 12.
func randomWorld(r *rand.Rand) api.World {
	w, _ := network.New(1 + r.Intn(3))
	for _, code := range []string{"1.1", "1.2", "2", "5"} {
		w, _ = network.Do(w, stepOf(api.StepTotal, 0, code, 200))
		for k := range w.Journals {
			for _, s := range granted(k+1, code, 30+r.Intn(30)) {
				w, _ = network.Do(w, s)
			}
		}
	}
	for range 150 {
		s := api.Step{Kind: 1 + r.Intn(11), Office: 1 + r.Intn(w.Treasury.Offices), Code: []string{"1.1", "1.2", "2", "5"}[r.Intn(4)], Year: 12, Amount: 1 + r.Intn(60), Index: r.Intn(len(w.Mail) + 1)}
		if s.Kind == api.StepTotal {
			s.Amount = 50 + r.Intn(200)
		}
		if r.Intn(3) > 0 {
			s.Kind = api.StepDo
		}
		s.Op = api.Op{Kind: api.OpReserve, Code: s.Code, Year: 12, Day: 4330, Amount: s.Amount}
		switch of := 1 + r.Intn(3); r.Intn(9) {
		case 0, 1:
			s.Op = api.Op{Kind: api.OpCommit, Of: of, Day: 4340, Amount: 1 + r.Intn(30), Payee: 1, Due: 4400}
		case 2, 3:
			s.Op = api.Op{Kind: api.OpVerify, Of: of, Day: 4350, Amount: 1 + r.Intn(10)}
		case 4, 5:
			s.Op = api.Op{Kind: api.OpOrder, Of: of, Day: 4360}
		case 6:
			s.Op = api.Op{Kind: api.OpReturned, Of: of}
		case 7:
			s.Op = api.Op{Kind: api.OpDrop, Of: of, Amount: 1 + r.Intn(9)}
		}
		if next, e := network.Do(w, s); e == api.OK {
			w = next
		}
	}
	return w
}
