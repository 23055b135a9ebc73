package execution

import (
	"fmt"
	"math"
	"math/rand"
	"slices"
	"strings"
	"testing"

	"treasury/amendment"
	"treasury/api"
	"treasury/available"
	"treasury/budget"
	"treasury/classification"
	"treasury/journal"
	"treasury/reduction"
)

// example returns facts and a world: of the leaf 1.1 two offices have what the chapter's example says, and of the leaf 2 more is out than there is.
func example(t *testing.T) (api.Facts, api.World) {
	t.Helper()
	f := factsOf(t, "line 1.1 12 500; line 1.2 12 70; line 2 12 100; wait 1.2 12 100 12-06-01; amend 12-12-01 1 line 2 12 30")
	var steps []api.Step
	steps = append(steps, stepOf(api.StepTotal, 0, "1.1", 500), stepOf(api.StepTotal, 0, "2", 100))
	for _, s := range [][]api.Step{
		granted(1, "1.1", 100), granted(2, "1.1", 200), granted(1, "2", 80),
		opsOf(t, 1, "reserve 1.1 12 4330 100", "commit 1 4331 60 7 4400", "commit 1 4331 20 8 4400", "verify 1 4340 50", "order 1 4341", "verify 2 4340 20", "order 2 4341", "returned 2"),
		opsOf(t, 2, "reserve 1.1 12 4330 150", "commit 1 4331 125 7 4400", "drop 1 5", "verify 1 4340 50", "order 1 4341"),
		opsOf(t, 1, "reserve 2 12 4330 75", "commit 2 4331 75 7 4400"),
		{stepOf(api.StepTotal, 0, "2", 30)},
	} {
		steps = append(steps, s...)
	}
	return f, worldOf(t, 2, steps...)
}

// P22.1

func TestRows(t *testing.T) {
	f, w := example(t)
	for _, c := range []struct {
		year, day int
		want      []api.Row
	}{
		{12, 4350, []api.Row{rowOf("1.1", 12, 500, 500, 300, 45, 200, 120, 100, 0), rowOf("1.2", 12, 70, -30, 0, 0, 0, 0, 0, 0), rowOf("2", 12, 100, 100, 80, 0, 75, 0, 0, 50), rowOf("9", 12, 0, 0, 0, 0, 0, 0, 0, 0)}},
		{12, 4650, []api.Row{rowOf("1.1", 12, 500, 500, 300, 45, 200, 120, 100, 0), rowOf("1.2", 12, 70, 70, 0, 0, 0, 0, 0, 0), rowOf("2", 12, 30, 30, 80, 0, 75, 0, 0, 50), rowOf("9", 12, 0, 0, 0, 0, 0, 0, 0, 0)}},
		{13, 36000, []api.Row{rowOf("1.1", 13, 0, 0, 0, 0, 0, 0, 0, 0), rowOf("1.2", 13, 0, 0, 0, 0, 0, 0, 0, 0), rowOf("2", 13, 0, 0, 0, 0, 0, 0, 0, 0), rowOf("9", 13, 0, 0, 0, 0, 0, 0, 0, 0)}},
	} {
		got, e := Rows(f, w, c.year, c.day)
		if e != api.OK || !slices.Equal(got, c.want) {
			t.Errorf("%d on %d: %v, error %d, not %v", c.year, c.day, got, e, c.want)
		}
	}
}

func TestErrorsOfRows(t *testing.T) {
	for _, c := range badFacts(t) {
		if rows, e := Rows(c.f, c.w, c.year, c.day); rows != nil || e != c.want {
			t.Errorf("%s: %v, error %d, not %d", c.name, rows, e, c.want)
		}
		if open, lines, e := Carry(c.f, c.w, c.year, c.day); open != nil || lines != nil || e != c.want {
			t.Errorf("%s: carried %v and %v, error %d, not %d", c.name, open, lines, e, c.want)
		}
	}
}

func TestRowsOfALawWithoutLeaves(t *testing.T) {
	_, w := example(t)
	f := api.Facts{Law: api.Law{First: 12, Years: 1}}
	for _, day := range []int{4350, -1} {
		if rows, e := Rows(f, w, 5, day); len(rows) != 0 || e != api.OK {
			t.Errorf("%v, error %d", rows, e)
		}
	}
	if rows, e := Rows(f, api.World{}, 12, 4350); rows != nil || e != api.ErrInvalid {
		t.Errorf("%v, error %d", rows, e)
	}
}

func TestRandomRows(t *testing.T) {
	r := rand.New(rand.NewSource(221))
	var seen [8]int
	for range 80 {
		f, w, day := randomFacts(t, r), randomWorld(r), 4320+r.Intn(359)
		kept := fmt.Sprint(f, w)
		rows, e := Rows(f, w, 12, day)
		if e != api.OK || len(rows) != len(leaves) || fmt.Sprint(f, w) != kept {
			t.Fatalf("%v, error %d", rows, e)
		}
		force, _ := amendment.InForce(f.Law, day)
		for i, row := range rows {
			appropriation, _ := available.Amount(f, leaves[i], 12, day)
			want := api.Row{Code: leaves[i], Year: 12, Line: budget.Line(force, leaves[i], 12), Appropriation: appropriation}
			addOut(&want, w)
			addBooks(t, &want, w)
			if row != want {
				t.Fatalf("%v, not %v", row, want)
			}
			for k, n := range numbersOf(row) {
				if n != 0 {
					seen[k]++
				}
			}
		}
	}
	for k, n := range seen {
		if n < 10 {
			t.Errorf("the number %d is not 0 in %d rows only", k, n)
		}
	}
}

// addOut is a reference: what is out of a pot, and its shortfall.
func addOut(row *api.Row, w api.World) {
	for _, p := range w.Treasury.Pots {
		if p.Code != row.Code || p.Year != row.Year {
			continue
		}
		for k := range p.Granted {
			row.Out += p.Granted[k] - p.Heard[k]
		}
		row.Shortfall = max(0, row.Out-p.Total)
	}
}

// addBooks is a reference: what the books of all offices say of a leaf and a year, entry by entry.
func addBooks(t *testing.T, row *api.Row, w api.World) {
	t.Helper()
	for _, j := range w.Journals {
		o, e := journal.State(j)
		if e != api.OK {
			t.Fatalf("error %d", e)
		}
		b := o.Book
		for _, x := range b.Reservations {
			if x.Code == row.Code && x.Year == row.Year {
				row.Reserved += x.Amount - x.Released
			}
		}
		for _, c := range b.Commitments {
			if x := b.Reservations[c.Reservation-1]; x.Code == row.Code && x.Year == row.Year {
				row.Reserved -= c.Amount
				row.Committed += c.Amount - c.Released
			}
		}
		for _, v := range b.Verifications {
			if x := b.Reservations[b.Commitments[v.Commitment-1].Reservation-1]; x.Code == row.Code && x.Year == row.Year {
				row.Verified += v.Amount
				if slices.ContainsFunc(b.Orders, func(d api.Order) bool { return d.Verification == v.Number && !d.Back }) {
					row.Ordered += v.Amount
				}
			}
		}
	}
}

// P22.2

func TestTotal(t *testing.T) {
	rows := []api.Row{rowOf("1.1", 12, 1, 2, 3, 4, 5, 6, 7, 8), rowOf("1.2", 12, 10, -20, 30, 40, 50, 60, 70, 80), rowOf("2", 12, 100, 200, 300, 400, 500, 600, 700, 800), rowOf("x", 12, 1000, 2000, 3000, 4000, 5000, 6000, 7000, 8000)}
	for top, want := range map[string]api.Row{
		"":    rowOf("", 12, 1111, 2182, 3333, 4444, 5555, 6666, 7777, 8888),
		"1":   rowOf("1", 12, 11, -18, 33, 44, 55, 66, 77, 88),
		"1.2": rowOf("1.2", 12, 10, -20, 30, 40, 50, 60, 70, 80),
		"2":   rowOf("2", 12, 100, 200, 300, 400, 500, 600, 700, 800),
		"3":   rowOf("3", 0, 0, 0, 0, 0, 0, 0, 0, 0),
		"x":   rowOf("x", 0, 0, 0, 0, 0, 0, 0, 0, 0),
	} {
		if got, e := Total(rows, top); e != api.OK || got != want {
			t.Errorf("under %q: %v, error %d, not %v", top, got, e, want)
		}
	}
	if got, e := Total(nil, ""); e != api.OK || got != (api.Row{}) {
		t.Errorf("of nothing: %v, error %d", got, e)
	}
	if got, e := Total([]api.Row{rowOf("1", -7, 1, 2, 3, 4, 5, 6, 7, 8)}, ""); e != api.OK || got != rowOf("", -7, 1, 2, 3, 4, 5, 6, 7, 8) {
		t.Errorf("of one: %v, error %d", got, e)
	}
}

func TestErrorsOfTotal(t *testing.T) {
	for k := range 8 {
		with := func(numbers ...int) []api.Row {
			var rows []api.Row
			for _, n := range numbers {
				l := make([]int, 8)
				l[k] = n
				rows = append(rows, rowOf("1.1", 12, l...))
			}
			return rows
		}
		for _, c := range []struct {
			rows []api.Row
			want api.Errno
		}{
			{with(mostTotal), api.OK}, {with(-mostTotal), api.OK}, {with(mostTotal-1, 1), api.OK}, {with(-mostTotal, mostTotal, mostTotal), api.OK},
			{with(mostTotal + 1), api.ErrRange}, {with(-mostTotal - 1), api.ErrRange}, {with(math.MaxInt), api.ErrRange}, {with(math.MinInt), api.ErrRange}, {with(1, mostTotal+1), api.ErrRange},
			{with(mostTotal, 1), api.ErrRange}, {with(-mostTotal, -1), api.ErrRange}, {with(mostTotal, 1, -1), api.ErrRange}, {with(-5, mostTotal+1), api.ErrRange},
		} {
			for _, top := range []string{"", "1"} {
				got, e := Total(c.rows, top)
				if e != c.want || e != api.OK && got != (api.Row{}) {
					t.Errorf("number %d of %v: %v, error %d, not %d", k, c.rows, got, e, c.want)
				}
			}
			if got, e := Total(c.rows, "2"); e != api.OK || got != (api.Row{Code: "2"}) {
				t.Errorf("what does not count: %v, error %d", got, e)
			}
			other := append(slices.Clone(c.rows), api.Row{Code: "3", Year: 13})
			for _, top := range []string{"", "1", "2", "3"} {
				if got, e := Total(other, top); e != api.ErrYear || got != (api.Row{}) {
					t.Errorf("another year: %v, error %d", got, e)
				}
			}
		}
	}
}

// P22.3

func TestRightAndFree(t *testing.T) {
	good := rowOf("1", 12, 500, 490, 300, 50, 200, 120, 100, 0)
	for _, c := range []struct {
		name   string
		change func(r *api.Row)
		want   api.Errno
	}{
		{"as it is", func(r *api.Row) {}, api.OK},
		{"zeros", func(r *api.Row) { *r = api.Row{} }, api.OK},
		{"any code and year", func(r *api.Row) { r.Code, r.Year = "x", math.MinInt }, api.OK},
		{"the least appropriation", func(r *api.Row) { r.Appropriation, r.Shortfall = -mostTotal, 300 }, api.OK},
		{"less than it", func(r *api.Row) { r.Appropriation, r.Shortfall = -mostTotal-1, 300 }, api.ErrRange},
		{"a line of any size", func(r *api.Row) { r.Line = mostTotal }, api.OK},
		{"all used", func(r *api.Row) { r.Reserved = 100 }, api.OK},
		{"more used than is out", func(r *api.Row) { r.Reserved = 101 }, api.ErrFunds},
		{"more committed than is out", func(r *api.Row) { r.Committed = 251 }, api.ErrFunds},
		{"all out", func(r *api.Row) { r.Out = 490 }, api.OK},
		{"more out than there is", func(r *api.Row) { r.Out = 491 }, api.ErrFunds},
		{"a shortfall", func(r *api.Row) { r.Out, r.Shortfall = 497, 7 }, api.OK},
		{"a shortfall that is too small", func(r *api.Row) { r.Out, r.Shortfall = 498, 7 }, api.ErrFunds},
		{"an appropriation below 0", func(r *api.Row) { r.Appropriation, r.Shortfall = -10, 300 }, api.OK},
		{"an appropriation below 0, too small a shortfall", func(r *api.Row) { r.Appropriation, r.Shortfall = -10, 299 }, api.ErrFunds},
		{"a larger shortfall", func(r *api.Row) { r.Shortfall = mostTotal }, api.OK},
		{"all verified", func(r *api.Row) { r.Verified = 200 }, api.OK},
		{"more verified than committed", func(r *api.Row) { r.Verified = 201 }, api.ErrOrder},
		{"all ordered", func(r *api.Row) { r.Ordered = 120 }, api.OK},
		{"more ordered than verified", func(r *api.Row) { r.Ordered = 121 }, api.ErrOrder},
		{"ranges ahead of funds", func(r *api.Row) { r.Out, r.Ordered = 491, -1 }, api.ErrRange},
		{"funds ahead of the order", func(r *api.Row) { r.Out, r.Ordered = 491, 121 }, api.ErrFunds},
		{"the largest numbers", func(r *api.Row) { *r = rowOf("1", 12, slices.Repeat([]int{mostTotal}, 8)...) }, api.ErrFunds},
	} {
		r := good
		c.change(&r)
		if got := Right(r); got != c.want {
			t.Errorf("%s: error %d, not %d", c.name, got, c.want)
		}
	}
	for k := range 8 {
		for _, n := range []int{-1, mostTotal + 1, math.MinInt, math.MaxInt} {
			l := numbersOf(good)
			l[k] = n
			if got := Right(rowOf("1", 12, l...)); (got == api.ErrRange) == (k == 1 && n == -1) {
				t.Errorf("number %d is %d: error %d", k, n, got)
			}
		}
	}
	for _, c := range []struct{ appropriation, out, want int }{{500, 300, 200}, {500, 501, -1}, {-5, 7, -12}, {math.MinInt, 1, math.MaxInt}} {
		if got := Free(api.Row{Line: 99, Appropriation: c.appropriation, Out: c.out, Shortfall: 99}); got != c.want {
			t.Errorf("free of %d, out %d: %d", c.appropriation, c.out, got)
		}
	}
}

// P22.4

func TestCarry(t *testing.T) {
	f, w := example(t)
	open := func(office, commitment int, code string, amount int) api.Open {
		return api.Open{Office: office, Commitment: commitment, Code: code, Year: 12, Amount: amount}
	}
	for _, day := range []int{4679, 4680, 36000} {
		opens, lines, e := Carry(f, w, 12, day)
		if want := []api.Open{open(1, 1, "1.1", 10), open(1, 3, "2", 75), open(2, 1, "1.1", 70)}; !slices.Equal(opens, want) || e != api.OK {
			t.Errorf("day %d: open %v, error %d, not %v", day, opens, e, want)
		}
		if want := []api.Line{{Code: "1.1", Year: 13, Amount: 80}, {Code: "2", Year: 13, Amount: 75}}; !slices.Equal(lines, want) {
			t.Errorf("day %d: lines %v, not %v", day, lines, want)
		}
	}
	for _, day := range []int{0, 4320, 4678} {
		if opens, lines, e := Carry(f, w, 12, day); opens != nil || lines != nil || e != api.ErrYear {
			t.Errorf("day %d: %v, %v, error %d", day, opens, lines, e)
		}
	}
	if opens, lines, e := Carry(f, w, 13, 5039); len(opens) != 0 || len(lines) != 0 || e != api.OK {
		t.Errorf("the year 13: %v, %v, error %d", opens, lines, e)
	}
	if opens, lines, e := Carry(f, w, 13, 5038); opens != nil || lines != nil || e != api.ErrYear {
		t.Errorf("the year 13, too early: %v, %v, error %d", opens, lines, e)
	}
}

func TestCarryOfOtherLeaves(t *testing.T) {
	_, w := example(t)
	other := factsOf(t, "")
	other.Law.Tree = other.Law.Tree[3:]
	opens, lines, e := Carry(other, w, 12, 4679)
	if len(opens) != 3 || !slices.Equal(lines, []api.Line{{Code: "2", Year: 13, Amount: 75}}) || e != api.OK {
		t.Errorf("of other leaves: %v, %v, error %d", opens, lines, e)
	}
	none := api.Facts{Law: api.Law{First: 12, Years: 1}}
	for _, c := range []struct {
		year, day int
		open      int
		want      api.Errno
	}{
		{12, 4679, 3, api.OK}, {12, 36000, 3, api.OK}, {12, 4678, 0, api.ErrYear}, {12, -1, 0, api.ErrYear}, {12, 36001, 0, api.ErrYear}, {12, math.MaxInt, 0, api.ErrYear}, {12, math.MinInt, 0, api.ErrYear},
		{-5, 0, 0, api.OK}, {math.MinInt, 0, 0, api.OK}, {math.MaxInt, 36000, 0, api.ErrYear}, {99, 35999, 0, api.OK}, {99, 35998, 0, api.ErrYear}, {100, 36000, 0, api.ErrYear}, {math.MaxInt / 360, 36000, 0, api.ErrYear},
	} {
		opens, lines, e := Carry(none, w, c.year, c.day)
		if len(opens) != c.open || len(lines) != 0 || e != c.want {
			t.Errorf("without leaves, %d on %d: %v, %v, error %d", c.year, c.day, opens, lines, e)
		}
	}
}

func TestCarryOfTooMuch(t *testing.T) {
	f := factsOf(t, "")
	for last, want := range map[int]api.Errno{1: api.OK, 2: api.ErrRange} {
		steps := []api.Step{stepOf(api.StepTotal, 0, "1.1", 5*mostAmount)}
		steps = append(steps, granted(1, "1.1", 3*mostAmount)...)
		steps = append(steps, opsOf(t, 1, fmt.Sprint("reserve 1.1 12 4330 ", mostAmount-1), fmt.Sprint("commit 1 4331 ", mostAmount-1, " 7 4400"), "reserve 1.1 12 4330 9", fmt.Sprint("commit 2 4331 ", last, " 7 4400"))...)
		opens, lines, e := Carry(f, worldOf(t, 1, steps...), 12, 4679)
		if e != want || e == api.OK && (len(opens) != 2 || lines[0].Amount != mostAmount) || e != api.OK && (opens != nil || lines != nil) {
			t.Errorf("%d more: %v, %v, error %d", last, opens, lines, e)
		}
	}
}

// P22.5

func TestText(t *testing.T) {
	f, w := example(t)
	rows, _ := Rows(f, w, 12, 4350)
	want := "1.1 12 500 500 300 45 200 120 100 0\n1.2 12 70 -30 0 0 0 0 0 0\n2 12 100 100 80 0 75 0 0 50\n9 12 0 0 0 0 0 0 0 0\n"
	if got := Text(rows); got != want {
		t.Errorf("%q, not %q", got, want)
	}
	if got := Text(nil); got != "" {
		t.Errorf("of nothing: %q", got)
	}
	if got, want := Text([]api.Row{rowOf("any text", -7, math.MinInt, math.MaxInt, 1, 2, 3, 4, 5, 6)}), "any text -7 -9223372036854775808 9223372036854775807 1 2 3 4 5 6\n"; got != want {
		t.Errorf("%q, not %q", got, want)
	}
}

// The consequences, and P1

func TestExample(t *testing.T) {
	r := rowOf("1", 12, 500, 500, 300, 50, 200, 120, 100, 0)
	if Free(r) != 200 || Right(r) != api.OK {
		t.Errorf("free %d, error %d", Free(r), Right(r))
	}
	f, w := example(t)
	_, lines, _ := Carry(f, w, 12, 4679)
	if lines[0].Amount != 80 {
		t.Errorf("carried %v", lines)
	}
}

func TestRowsAreRight(t *testing.T) {
	r := rand.New(rand.NewSource(222))
	short := 0
	for range 80 {
		f, w, day := randomFacts(t, r), randomWorld(r), 4320+r.Intn(359)
		followed, e := followOf(f, w, day)
		if e != api.OK {
			t.Fatalf("error %d", e)
		}
		w.Treasury = followed
		rows, e := Rows(f, w, 12, day)
		if e != api.OK {
			t.Fatalf("error %d", e)
		}
		for _, row := range rows {
			if e := Right(row); e != api.OK {
				t.Fatalf("%v is not right: error %d", row, e)
			}
			if row.Shortfall > 0 {
				short++
			}
		}
		checkTotals(t, rows)
		checkCarried(t, f, w)
	}
	if short < 20 {
		t.Errorf("only %d rows have a shortfall", short)
	}
}

// followOf returns the treasury of a world whose pots of the law follow it. A pot that is not of the law can not.
func followOf(f api.Facts, w api.World, day int) (api.Treasury, api.Errno) {
	own := func(p api.Pot) bool { return slices.Contains(leaves, p.Code) }
	some := api.Treasury{Offices: w.Treasury.Offices}
	for _, p := range w.Treasury.Pots {
		if own(p) {
			some.Pots = append(some.Pots, p)
		}
	}
	some, _, e := reduction.Follow(some, f, day)
	for _, p := range w.Treasury.Pots {
		if !own(p) {
			some.Pots = append(some.Pots, p)
		}
	}
	slices.SortFunc(some.Pots, func(a, b api.Pot) int { return strings.Compare(a.Code, b.Code) })
	return some, e
}

// checkTotals fails unless the total under a code is that of its children.
func checkTotals(t *testing.T, rows []api.Row) {
	t.Helper()
	all, e := Total(rows, "")
	sum := make([]int, 8)
	for _, top := range []string{"1.1", "1.2", "2", "9"} {
		x, f := Total(rows, top)
		for k, n := range numbersOf(x) {
			sum[k] += n
		}
		if f != api.OK {
			t.Fatalf("error %d", f)
		}
		if top == "1.2" {
			one, _ := Total(rows, "1")
			if one != rowOf("1", 12, sum...) {
				t.Fatalf("%v, not %v", one, sum)
			}
		}
	}
	if e != api.OK || all != rowOf("", 12, sum...) {
		t.Fatalf("%v, error %d, not %v", all, e, sum)
	}
}

// checkCarried fails unless what is carried is what was committed and not verified.
func checkCarried(t *testing.T, f api.Facts, w api.World) {
	t.Helper()
	opens, lines, e := Carry(f, w, 12, 4700)
	rows, g := Rows(f, w, 12, 4700)
	if e != api.OK || g != api.OK {
		t.Fatalf("errors %d and %d", e, g)
	}
	var want []api.Line
	for _, row := range rows {
		if n := row.Committed - row.Verified; n > 0 {
			want = append(want, api.Line{Code: row.Code, Year: 13, Amount: n})
		}
	}
	if !slices.Equal(lines, want) {
		t.Fatalf("%v, not %v", lines, want)
	}
	for _, x := range opens {
		if x.Year != 12 || x.Amount < 1 || classification.Parts(x.Code) == nil {
			t.Fatalf("%v is open", x)
		}
	}
}
