package amendment

import (
	"fmt"
	"math"
	"math/rand"
	"reflect"
	"slices"
	"testing"

	"treasury/api"
	"treasury/budget"
)

// faults are laws that are not valid, for errors of several steps of budget.Valid.
func faults(t *testing.T) map[api.Errno]api.Law {
	change := func(change func(l *api.Law)) api.Law {
		l := full(t)
		change(&l)
		return l
	}
	return map[api.Errno]api.Law{
		api.ErrRange:   {},
		api.ErrUnknown: change(func(l *api.Law) { l.Tree[5].Code = "3.1" }),
		api.ErrLimit:   change(func(l *api.Law) { l.Lines = make([]api.Line, 121) }),
		api.ErrCode:    change(func(l *api.Law) { l.Lines[0].Code = "2" }),
		api.ErrYear:    change(func(l *api.Law) { l.Ceilings[0].Year = -2 }),
		api.ErrShare:   change(func(l *api.Law) { l.Earmarks[0].Percent = 81 }),
		api.ErrInvalid: change(func(l *api.Law) { l.Amendments[3].Changes = nil }),
		api.ErrOrder:   change(func(l *api.Law) { slices.Reverse(l.Amendments[0].Changes) }),
	}
}

// P6.1

func TestApply(t *testing.T) {
	for _, c := range []struct{ name, law, changes, want string }{
		{"no changes", "line 1 12 500; ceiling 1 all 0", "", "line 1 12 500; ceiling 1 all 0"},
		{"nothing", "", "", ""},
		{"a new line", "", "line 1 12 500", "line 1 12 500"},
		{"a changed line", "line 1 12 500", "line 1 12 600", "line 1 12 600"},
		{"a line that stays as it is", "line 1 12 500", "line 1 12 500", "line 1 12 500"},
		{"a removed line", "line 1 12 500; line 1 13 1; line 2.1 12 2", "line 1 13 0", "line 1 12 500; line 2.1 12 2"},
		{"the last line removed", "line 1 12 500", "line 1 12 0", ""},
		{"a line of 0 removed", "line 1 12 0; line 1 13 0", "line 1 12 0", "line 1 13 0"},
		{"a line of 0 changed", "line 1 12 0", "line 1 12 7", "line 1 12 7"},
		{"a removed line that is not there", "line 1 12 500", "line 1 13 0; line 2.1 12 0", "line 1 12 500"},
		{"lines of 0 that nothing changes", "line 1 12 0; line 2.9 12 0", "line 2.1 12 1", "line 1 12 0; line 2.1 12 1; line 2.9 12 0"},
		{"a line in front", "line 1 13 5", "line 1 12 6", "line 1 12 6; line 1 13 5"},
		{"a line behind", "line 9 12 5", "line 9 13 6", "line 9 12 5; line 9 13 6"},
		{"lines in between", "line 1 12 5; line 9 12 5", "line 2.10 12 6; line 2.9 12 7; line 1 13 8", "line 1 12 5; line 1 13 8; line 2.9 12 7; line 2.10 12 6; line 9 12 5"},
		{"the greatest line", "", "line 9 13 1000000000000", "line 9 13 1000000000000"},
		{"a new ceiling", "", "ceiling 2 all 50", "ceiling 2 all 50"},
		{"a new ceiling of 0", "", "ceiling 2 12 0", "ceiling 2 12 0"},
		{"a ceiling changed to 0", "ceiling 2 12 50", "ceiling 2 12 0", "ceiling 2 12 0"},
		{"a removed ceiling", "ceiling 2 all 50; ceiling 2 12 60; ceiling 2 13 70", "ceiling 2 12 none", "ceiling 2 all 50; ceiling 2 13 70"},
		{"a ceiling of 0 removed", "ceiling 2 all 0", "ceiling 2 all none", ""},
		{"a removed ceiling that is not there", "ceiling 2 all 50", "ceiling 2 12 none; ceiling 1 all none", "ceiling 2 all 50"},
		{"ceilings in their order", "ceiling 2 12 1", "ceiling 2.10 all 2; ceiling 2.9 13 3; ceiling 2 all 4; ceiling 1 13 5", "ceiling 1 13 5; ceiling 2 all 4; ceiling 2 12 1; ceiling 2.9 13 3; ceiling 2.10 all 2"},
		{"a new floor", "", "floor 2 all 50", "floor 2 all 50"},
		{"a removed floor", "floor 2 all 50; floor 2 12 1", "floor 2 all 0", "floor 2 12 1"},
		{"a floor of 0 removed", "floor 2 all 0", "floor 2 all 0", ""},
		{"a floor of 0 that nothing changes", "floor 2 all 0", "floor 2 12 3", "floor 2 all 0; floor 2 12 3"},
		{"a removed floor that is not there", "floor 2 all 50", "floor 2 12 0; floor 9 13 0", "floor 2 all 50"},
		{"floors in their order", "floor 2 12 1", "floor 2.10 all 2; floor 2.9 13 3; floor 2 all 4; floor 1 13 5", "floor 1 13 5; floor 2 all 4; floor 2 12 1; floor 2.9 13 3; floor 2.10 all 2"},
		{"kinds of one place", "line 1 12 1; ceiling 1 12 2; floor 1 12 3", "floor 1 12 30; line 1 12 10; ceiling 1 12 20", "line 1 12 10; ceiling 1 12 20; floor 1 12 30"},
		{"one kind of three", "line 1 12 1; ceiling 1 12 2; floor 1 12 3", "ceiling 1 12 none", "line 1 12 1; floor 1 12 3"},
		{"the other kinds of three", "line 1 12 1; ceiling 1 12 2; floor 1 12 3", "floor 1 12 0; line 1 12 0", "ceiling 1 12 2"},
		{"one after the other", "line 1 12 500", "line 1 12 600; line 1 12 700", "line 1 12 700"},
		{"set and removed", "", "line 1 12 600; line 1 12 0; ceiling 1 12 5; ceiling 1 12 none; floor 1 12 5; floor 1 12 0", ""},
		{"removed and set", "line 1 12 500", "line 1 12 0; line 1 12 600", "line 1 12 600"},
		{"in any order", "", "floor 9 12 1; ceiling 9 12 2; line 9 12 3; line 1 12 4; floor 1 all 5", "line 1 12 4; line 9 12 3; ceiling 9 12 2; floor 1 all 5; floor 9 12 1"},
		{"22 changes", "", "line 1 12 1; line 1 12 2; line 1 12 3; line 1 12 4; line 1 12 5; line 1 12 6; line 1 12 7; line 1 12 8; line 1 12 9; line 1 12 10; line 1 12 11; line 1 12 12; line 1 12 13; line 1 12 14; line 1 12 15; line 1 12 16; line 1 12 17; line 1 12 18; line 1 12 19; line 1 12 20; line 1 12 21; line 1 13 22", "line 1 12 21; line 1 13 22"},
	} {
		l, e := Apply(lawOf(t, c.law), changesOf(t, c.changes))
		if got := articlesOf(l); got != c.want || e != api.OK {
			t.Errorf("%s: %s, error %d, not %s", c.name, got, e, c.want)
		}
	}
}

// TestApplyLeavesTheRest looks at all that changes do not set.
func TestApplyLeavesTheRest(t *testing.T) {
	want := full(t)
	want.Lines, want.Ceilings, want.Floors = nil, nil, nil
	got, e := Apply(full(t), changesOf(t, "line 1 12 0; line 1 13 0; line 2.1 12 0; line 2.10 13 0; ceiling 1 all none; ceiling 2 12 none; ceiling 2.9 13 none; floor 2 all 0; floor 2.10 13 0; floor 9 12 0"))
	if e != api.OK {
		t.Errorf("error %d", e)
	}
	same(t, "without lines and bounds", got, want)
	got, e = Apply(full(t), []api.Change{})
	if e != api.OK {
		t.Errorf("error %d", e)
	}
	same(t, "without changes", got, full(t))
}

func TestApplyErrorsOfTheLaw(t *testing.T) {
	for want, l := range faults(t) {
		for _, changes := range [][]api.Change{nil, {{Kind: 1, Code: "1", Year: 12, Amount: 5}}, {{}}} {
			got, e := Apply(l, changes)
			refused(t, fmt.Sprint(changes), got, e, want)
		}
	}
}

// badChanges are changes that are not valid in the law of the base, with the error.
func badChanges() map[api.Change]api.Errno {
	return map[api.Change]api.Errno{
		{}: api.ErrInvalid,
		{Kind: 0, Code: "1", Year: 12, Amount: 5}:                                   api.ErrInvalid,
		{Kind: 4, Code: "1", Year: 12, Amount: 5}:                                   api.ErrInvalid,
		{Kind: -1, Code: "x", Year: -2, Amount: -2}:                                 api.ErrInvalid,
		{Kind: math.MaxInt, Code: "x", Year: -2}:                                    api.ErrInvalid,
		{Kind: 1, Code: "2", Year: 12, Amount: 5}:                                   api.ErrCode,
		{Kind: 1, Code: "3", Year: 12, Amount: 5}:                                   api.ErrCode,
		{Kind: 1, Code: "", Year: -1, Amount: -1}:                                   api.ErrCode,
		{Kind: 1, Code: "2.010", Year: 12, Amount: 5}:                               api.ErrCode,
		{Kind: 2, Code: "3", Year: 14, Amount: -2}:                                  api.ErrCode,
		{Kind: 2, Code: "2.1.1", Year: 12, Amount: -1}:                              api.ErrCode,
		{Kind: 3, Code: "x", Year: 12, Amount: 0}:                                   api.ErrCode,
		{Kind: 1, Code: "1", Year: 11, Amount: 5}:                                   api.ErrYear,
		{Kind: 1, Code: "1", Year: 14, Amount: -1}:                                  api.ErrYear,
		{Kind: 1, Code: "1", Year: -1, Amount: 5}:                                   api.ErrYear,
		{Kind: 2, Code: "2", Year: -2, Amount: -2}:                                  api.ErrYear,
		{Kind: 2, Code: "2", Year: 14, Amount: -1}:                                  api.ErrYear,
		{Kind: 3, Code: "2", Year: 11, Amount: 5}:                                   api.ErrYear,
		{Kind: 3, Code: "2", Year: math.MinInt, Amount: 5}:                          api.ErrYear,
		{Kind: 1, Code: "1", Year: 12, Amount: -1}:                                  api.ErrRange,
		{Kind: 1, Code: "1", Year: 12, Amount: mostAmount + 1}:                      api.ErrRange,
		{Kind: 2, Code: "1", Year: -1, Amount: -2}:                                  api.ErrRange,
		{Kind: 2, Code: "1", Year: 12, Amount: math.MaxInt}:                         api.ErrRange,
		{Kind: 3, Code: "2", Year: -1, Amount: -1}:                                  api.ErrRange,
		{Kind: 3, Code: "2", Year: 13, Amount: mostAmount + 1}:                      api.ErrRange,
		{Kind: api.ChangeFloor, Code: "2.10", Year: 13, Amount: -mostAmount * 1000}: api.ErrRange,
	}
}

func TestApplyErrorsOfChanges(t *testing.T) {
	good := changesOf(t, "line 9 13 5; ceiling 2 12 none; floor 1 all 3; line 9 13 0")
	for bad, want := range badChanges() {
		for _, n := range []int{0, 1, 3, 4, 19, 20, 21, 39, 40, 41, 60} {
			changes := slices.Repeat(good, 20)[:n]
			changes = append(changes, bad)
			got, e := Apply(full(t), changes)
			refused(t, fmt.Sprint(bad, " behind ", n), got, e, want)
			for other := range badChanges() {
				got, e := Apply(full(t), append(changes, good[0], other))
				refused(t, fmt.Sprint(bad, " ahead of ", other), got, e, want)
			}
		}
		// A change that is replaced by a later one has to be valid, too.
		got, e := Apply(full(t), []api.Change{bad, {Kind: bad.Kind, Code: bad.Code, Year: bad.Year, Amount: 1}})
		refused(t, fmt.Sprint(bad, " replaced"), got, e, want)
	}
}

func TestApplyLimits(t *testing.T) {
	line := func(code, amount int) api.Change {
		return api.Change{Kind: 1, Code: fmt.Sprint(code), Year: 50, Amount: amount}
	}
	bound := func(kind, code, amount int) api.Change {
		return api.Change{Kind: kind, Code: fmt.Sprint(code), Year: -1, Amount: amount}
	}
	for name, c := range map[string]struct {
		changes []api.Change
		want    api.Errno
	}{
		"nothing":                           {nil, api.OK},
		"a changed line":                    {[]api.Change{line(1, 8)}, api.OK},
		"a line that is not there removed":  {[]api.Change{line(31, 0)}, api.OK},
		"121 lines":                         {[]api.Change{line(31, 1)}, api.ErrLimit},
		"121 lines, 120 at the end":         {[]api.Change{line(31, 1), line(1, 0)}, api.OK},
		"121 lines, the new one removed":    {[]api.Change{line(31, 1), line(31, 0)}, api.OK},
		"119 lines, 120 at the end":         {[]api.Change{line(30, 0), line(60, 1)}, api.OK},
		"119 lines, 121 at the end":         {[]api.Change{line(30, 0), line(60, 1), line(30, 1)}, api.ErrLimit},
		"61 ceilings":                       {[]api.Change{bound(2, 13, 5)}, api.ErrLimit},
		"61 ceilings, one of 0":             {[]api.Change{bound(2, 13, 0)}, api.ErrLimit},
		"a ceiling that is not there":       {[]api.Change{bound(2, 13, -1)}, api.OK},
		"61 ceilings, 60 at the end":        {[]api.Change{bound(2, 60, 0), bound(2, 1, -1)}, api.OK},
		"a ceiling of 0 in place of one":    {[]api.Change{bound(2, 60, 0), bound(2, 1, 0)}, api.ErrLimit},
		"61 floors":                         {[]api.Change{bound(3, 13, 5)}, api.ErrLimit},
		"a floor of 0":                      {[]api.Change{bound(3, 13, 0)}, api.OK},
		"61 floors, 60 at the end":          {[]api.Change{bound(3, 60, 1), bound(3, 1, 0)}, api.OK},
		"a floor in place of a ceiling":     {[]api.Change{bound(2, 1, -1), bound(3, 60, 1)}, api.ErrLimit},
		"121 lines and no change":           {[]api.Change{line(31, 1), {}}, api.ErrInvalid},
		"61 floors and a wrong amount":      {[]api.Change{bound(3, 13, 5), bound(3, 1, -1)}, api.ErrRange},
		"120 lines, 60 ceilings, 60 floors": {[]api.Change{line(31, 1), bound(2, 60, 0), bound(3, 60, 1), line(1, 0), bound(2, 1, -1), bound(3, 1, 0)}, api.OK},
	} {
		got, e := Apply(wide(), c.changes)
		refused(t, name, got, e, c.want)
		if want, _ := applied(wide(), c.changes); c.want == api.OK {
			same(t, name, got, want)
		}
	}
}

// TestApplyAllAtOnce has all places of a law, many more than an amendment can change.
func TestApplyAllAtOnce(t *testing.T) {
	var all []api.Change
	for _, h := range wide().Tree {
		for year := 50; year < 54; year++ {
			all = append(all, api.Change{Kind: 1, Code: h.Code, Year: year, Amount: 1})
		}
	}
	empty := wide()
	empty.Lines = nil
	l, e := Apply(empty, all[:120])
	if e != api.OK || len(l.Lines) != 120 || budget.Valid(l) != api.OK {
		t.Errorf("%d lines, error %d", len(l.Lines), e)
	}
	l, e = Apply(empty, all[:121])
	refused(t, "121 new lines", l, e, api.ErrLimit)
	l, e = Apply(empty, all)
	refused(t, "240 new lines", l, e, api.ErrLimit)
	l, e = Apply(empty, slices.Repeat(all[:100], 1000))
	if e != api.OK || len(l.Lines) != 100 {
		t.Errorf("%d lines, error %d", len(l.Lines), e)
	}
}

func TestApplyMany(t *testing.T) {
	c := chance{rand.New(rand.NewSource(1))}
	for range 1500 {
		l := c.ordinary()
		changes := c.changes(40)
		got, e := Apply(l, changes)
		want, _ := applied(l, changes)
		if e != api.OK {
			t.Errorf("error %d of valid changes", e)
		}
		same(t, textOf(changes), got, want)
	}
}

func TestApplyOdd(t *testing.T) {
	c := chance{rand.New(rand.NewSource(2))}
	errors := map[api.Errno]int{}
	for i := range 3000 {
		l := c.ordinary()
		if i%3 == 0 {
			l = c.broken(l)
		}
		var changes []api.Change
		for range c.Intn(5) {
			changes = append(changes, c.odd())
		}
		got, e := Apply(l, changes)
		want, wantError := applied(l, changes)
		refused(t, fmt.Sprint(changes), got, e, wantError)
		same(t, fmt.Sprint(changes), got, want)
		errors[e]++
	}
	for _, e := range []api.Errno{api.OK, api.ErrInvalid, api.ErrCode, api.ErrYear, api.ErrRange, api.ErrOrder, api.ErrLimit} {
		if errors[e] < 10 {
			t.Errorf("error %d only %d times", e, errors[e])
		}
	}
}

// P6.2

// TestExample is the one of the chapter.
func TestExample(t *testing.T) {
	l := lawOf(t, "line 1 12 500; amend 12-01-11 1 line 1 12 600; amend 12-03-21 1 line 1 12 0")
	for day, want := range map[int]string{
		4329: "line 1 12 500; amend 12-01-11 1 line 1 12 600; amend 12-03-21 1 line 1 12 0",
		4330: "line 1 12 600; amend 12-03-21 1 line 1 12 0",
		4399: "line 1 12 600; amend 12-03-21 1 line 1 12 0",
		4400: "",
	} {
		got, e := InForce(l, day)
		if articlesOf(got) != want || e != api.OK {
			t.Errorf("day %d: %s, error %d, not %s", day, articlesOf(got), e, want)
		}
	}
	if got := Days(l); !slices.Equal(got, []int{4330, 4400}) {
		t.Errorf("days %v", got)
	}
}

func TestInForce(t *testing.T) {
	const laws = "earmark 9 1 30; earmark 9 2.1 20; reach 2.10 12 100 9 5000; wait 1 13 10 12-06-01; wait 1 12 10 12-05-01; rule 1 1 2 10; rule 7 2 2 100"
	const first = "line 1 12 500; line 1 13 510; line 2.1 12 0; line 2.10 13 70; ceiling 1 all 2000; ceiling 2 12 90; ceiling 2.9 13 0; floor 2 all 20; floor 2.10 13 5; floor 9 12 0; " + laws +
		"; amend 12-01-11 1 line 1 12 600; amend 12-01-11 1 line 2.9 12 8; amend 12-01-11 1 ceiling 2 12 none; amend 12-01-11 2 line 1 12 650; amend 12-01-11 2 floor 9 13 4; amend 12-03-21 1 line 1 12 0; amend 12-03-21 1 floor 2 all 0; amend 99-12-21 1000000 line 1 13 1"
	const second = "line 1 12 650; line 1 13 510; line 2.1 12 0; line 2.9 12 8; line 2.10 13 70; ceiling 1 all 2000; ceiling 2.9 13 0; floor 2 all 20; floor 2.10 13 5; floor 9 12 0; floor 9 13 4; " + laws +
		"; amend 12-03-21 1 line 1 12 0; amend 12-03-21 1 floor 2 all 0; amend 99-12-21 1000000 line 1 13 1"
	const third = "line 1 13 510; line 2.1 12 0; line 2.9 12 8; line 2.10 13 70; ceiling 1 all 2000; ceiling 2.9 13 0; floor 2.10 13 5; floor 9 12 0; floor 9 13 4; " + laws +
		"; amend 99-12-21 1000000 line 1 13 1"
	const last = "line 1 13 1; line 2.1 12 0; line 2.9 12 8; line 2.10 13 70; ceiling 1 all 2000; ceiling 2.9 13 0; floor 2.10 13 5; floor 9 12 0; floor 9 13 4; " + laws
	for day, want := range map[int]string{0: first, 4000: first, 4329: first, 4330: second, 4331: second, 4399: second, 4400: third, 4401: third, lastDay - 1: third, lastDay: last, lastDay + 1: last, 36000: last} {
		got, e := InForce(full(t), day)
		if articlesOf(got) != want || e != api.OK {
			t.Errorf("day %d: %s, error %d, not %s", day, articlesOf(got), e, want)
		}
	}
	// Without amendments, and with one from the day 0 on.
	for _, day := range []int{0, 1, 36000} {
		got, e := InForce(lawOf(t, "line 1 12 500"), day)
		if articlesOf(got) != "line 1 12 500" || e != api.OK {
			t.Errorf("day %d: %s, error %d", day, articlesOf(got), e)
		}
		got, e = InForce(lawOf(t, "line 1 12 500; amend 0-01-01 1 line 1 12 600"), day)
		if articlesOf(got) != "line 1 12 600" || e != api.OK {
			t.Errorf("day %d: %s, error %d", day, articlesOf(got), e)
		}
	}
}

// TestInForceByNumbers has amendments of one day that set the same: their numbers say which one comes last.
func TestInForceByNumbers(t *testing.T) {
	l := lawOf(t, "amend 12-01-11 9 line 1 12 9; amend 12-01-11 10 line 1 12 10; amend 12-01-11 2 line 1 12 2; amend 12-01-10 11 line 1 12 11")
	for day, want := range map[int]int{4328: 0, 4329: 11, 4330: 10} {
		got, e := InForce(l, day)
		if n := budget.Line(got, "1", 12); n != want || e != api.OK {
			t.Errorf("day %d: line %d, error %d, not %d", day, n, e, want)
		}
	}
}

func TestInForceErrors(t *testing.T) {
	for _, day := range []int{-1, 36001, math.MinInt, math.MaxInt} {
		for want, l := range faults(t) {
			got, e := InForce(l, day)
			refused(t, fmt.Sprint("a wrong law on the day ", day), got, e, want)
			got, e = InForce(l, 4330)
			refused(t, "a wrong law", got, e, want)
		}
		got, e := InForce(full(t), day)
		refused(t, fmt.Sprint("day ", day), got, e, api.ErrRange)
	}
}

func TestInForceLimit(t *testing.T) {
	line := func(code string, amount int) []api.Change {
		return []api.Change{{Kind: 1, Code: code, Year: 50, Amount: amount}}
	}
	bound := func(kind int, code string, amount int) []api.Change {
		return []api.Change{{Kind: kind, Code: code, Year: -1, Amount: amount}}
	}
	for name, pair := range map[string][2][]api.Change{
		"lines":    {line("31", 1), line("1", 0)},
		"ceilings": {bound(2, "31", 1), bound(2, "1", -1)},
		"floors":   {bound(3, "31", 1), bound(3, "1", 0)},
	} {
		l := wide()
		l.Amendments = []api.Amendment{{Day: 10, Number: 1, Changes: pair[0]}, {Day: 20, Number: 1, Changes: pair[1]}, {Day: 30, Number: 5, Changes: pair[0]}}
		for day, want := range map[int]api.Errno{0: api.OK, 9: api.OK, 10: api.ErrLimit, 19: api.ErrLimit, 20: api.OK, 30: api.OK, 36000: api.OK, 36001: api.ErrRange} {
			got, e := InForce(l, day)
			refused(t, fmt.Sprint(name, " on the day ", day), got, e, want)
			if want == api.OK {
				same(t, name, got, must(forced(l, day)))
			}
		}
		// The limit holds at the end of a day, not between two amendments.
		l.Amendments[0].Day = 20
		l.Amendments[1].Number = 2
		got, e := InForce(l, 20)
		refused(t, name, got, e, api.OK)
	}
}

// must returns a law that has no error.
func must(l api.Law, e api.Errno) api.Law {
	if e != api.OK {
		panic(e)
	}
	return l
}

func TestInForceMany(t *testing.T) {
	c := chance{rand.New(rand.NewSource(3))}
	for range 300 {
		l := c.ordinary()
		for _, day := range days(l) {
			got, e := InForce(l, day)
			if e != api.OK {
				t.Errorf("day %d: error %d", day, e)
			}
			same(t, fmt.Sprint("day ", day), got, must(forced(l, day)))
			if e := budget.Valid(got); e != api.OK {
				t.Errorf("the law of the day %d has error %d", day, e)
			}
		}
	}
}

// TestInForceOfInForce checks that the law in force on a day, and from it the one on a later day, is the one on the later day.
func TestInForceOfInForce(t *testing.T) {
	c := chance{rand.New(rand.NewSource(4))}
	for range 150 {
		l := c.ordinary()
		all := days(l)
		for i, day := range all {
			now := must(InForce(l, day))
			for _, later := range all[i:] {
				same(t, fmt.Sprint("days ", day, later), must(InForce(now, later)), must(InForce(l, later)))
			}
			for _, earlier := range all[:i] {
				same(t, fmt.Sprint("days ", day, earlier), must(InForce(now, earlier)), now)
			}
		}
	}
}

func TestDays(t *testing.T) {
	for articles, want := range map[string][]int{
		"":                               nil,
		"line 1 12 500":                  nil,
		"amend 0-01-01 1 line 1 12 1":    {0},
		"amend 99-12-21 1 floor 1 all 1": {lastDay},
		"amend 12-01-11 1 line 1 12 1; amend 12-01-11 1 line 1 13 1; amend 12-01-11 2 line 1 12 1; amend 12-01-11 3 line 1 12 1": {4330},
		"amend 12-03-21 1 line 1 12 1; amend 12-01-11 2 line 1 12 1; amend 12-01-11 1 line 1 12 1; amend 12-03-21 2 line 1 12 1": {4330, 4400},
		"amend 9-01-11 1 line 1 12 1; amend 10-01-11 1 line 1 12 1; amend 0-01-02 1 line 1 12 1":                                 {1, 3250, 3610},
	} {
		if got := Days(lawOf(t, articles)); !slices.Equal(got, want) {
			t.Errorf("%q: days %v, not %v", articles, got, want)
		}
	}
	if got := Days(full(t)); !slices.Equal(got, []int{4330, 4400, lastDay}) {
		t.Errorf("days %v", got)
	}
	for e, l := range faults(t) {
		if got := Days(l); len(got) != 0 {
			t.Errorf("days %v of a law with error %d", got, e)
		}
	}
}

// TestDaysOfForce checks that the law changes on the days of amendments alone.
func TestDaysOfForce(t *testing.T) {
	c := chance{rand.New(rand.NewSource(5))}
	for range 100 {
		l := c.ordinary()
		marks := Days(l)
		before := l
		for _, day := range days(l) {
			now := must(InForce(l, day))
			if !slices.Contains(marks, day) && len(now.Amendments) != len(before.Amendments) {
				t.Errorf("day %d: amendments come into force", day)
			}
			if slices.Contains(marks, day) && len(now.Amendments) >= len(before.Amendments) {
				t.Errorf("day %d: no amendment comes into force", day)
			}
			before = now
		}
	}
}

// P6.3

func TestDifference(t *testing.T) {
	for _, c := range []struct{ name, a, b, want string }{
		{"nothing", "", "", ""},
		{"equal", "line 1 12 5; ceiling 1 all 5; floor 1 13 5", "line 1 12 5; ceiling 1 all 5; floor 1 13 5", ""},
		{"a new line", "", "line 1 12 5", "line 1 12 5"},
		{"another line", "line 1 12 5", "line 1 12 6", "line 1 12 6"},
		{"no line any more", "line 1 12 5", "", "line 1 12 0"},
		{"another year", "line 1 12 5", "line 1 13 5", "line 1 12 0; line 1 13 5"},
		{"a line of 0 for none", "", "line 1 12 0", ""},
		{"no line for one of 0", "line 1 12 0", "", ""},
		{"two lines of 0", "line 1 12 0", "line 1 12 0", ""},
		{"a line of 0 for another one", "line 1 12 5", "line 1 12 0", "line 1 12 0"},
		{"a line for one of 0", "line 1 12 0", "line 1 12 5", "line 1 12 5"},
		{"a new ceiling", "", "ceiling 2 all 5", "ceiling 2 all 5"},
		{"a new ceiling of 0", "", "ceiling 2 all 0", "ceiling 2 all 0"},
		{"no ceiling any more", "ceiling 2 12 5", "", "ceiling 2 12 none"},
		{"no ceiling of 0 any more", "ceiling 2 12 0", "", "ceiling 2 12 none"},
		{"a ceiling of 0 for another one", "ceiling 2 12 5", "ceiling 2 12 0", "ceiling 2 12 0"},
		{"two ceilings of 0", "ceiling 2 12 0", "ceiling 2 12 0", ""},
		{"a new floor", "", "floor 2 all 5", "floor 2 all 5"},
		{"no floor any more", "floor 2 12 5", "", "floor 2 12 0"},
		{"a floor of 0 for none", "", "floor 2 12 0", ""},
		{"no floor for one of 0", "floor 2 12 0", "", ""},
		{"a floor of 0 for another one", "floor 2 12 5", "floor 2 12 0", "floor 2 12 0"},
		{"bounds that exchange", "ceiling 1 12 5", "floor 1 12 5", "ceiling 1 12 none; floor 1 12 5"},
		{"their order", "line 2.10 12 1; line 9 13 1; ceiling 2 12 1; floor 1 13 1", "line 2.9 13 2; line 1 13 2; ceiling 2 all 2; ceiling 2.10 12 2; ceiling 2.9 12 2; floor 1 all 2; floor 1 12 3", "line 1 13 2; line 2.9 13 2; line 2.10 12 0; line 9 13 0; ceiling 2 all 2; ceiling 2 12 none; ceiling 2.9 12 2; ceiling 2.10 12 2; floor 1 all 2; floor 1 12 3; floor 1 13 0"},
		{"more than an amendment can have", "", "line 1 12 1; line 1 13 1; line 2.1 12 1; line 2.1 13 1; line 2.9 12 1; line 2.9 13 1; line 2.10 12 1; line 2.10 13 1; ceiling 1 all 1; ceiling 1 12 1; ceiling 1 13 1; ceiling 2 all 1; ceiling 2 12 1; ceiling 2 13 1; floor 1 all 1; floor 1 12 1; floor 1 13 1; floor 2 all 1; floor 2 12 1; floor 2 13 1; floor 9 all 1", "line 1 12 1; line 1 13 1; line 2.1 12 1; line 2.1 13 1; line 2.9 12 1; line 2.9 13 1; line 2.10 12 1; line 2.10 13 1; ceiling 1 all 1; ceiling 1 12 1; ceiling 1 13 1; ceiling 2 all 1; ceiling 2 12 1; ceiling 2 13 1; floor 1 all 1; floor 1 12 1; floor 1 13 1; floor 2 all 1; floor 2 12 1; floor 2 13 1; floor 9 all 1"},
		{"what changes do not set", "earmark 9 1 30; wait 1 12 10 12-05-01; rule 1 1 2 10; amend 12-01-11 1 line 1 12 5", "rule 2 2 1 11", ""},
	} {
		got, e := Difference(lawOf(t, c.a), lawOf(t, c.b))
		if textOf(got) != c.want || e != api.OK {
			t.Errorf("%s: %s, error %d, not %s", c.name, textOf(got), e, c.want)
		}
	}
}

func TestDifferenceErrors(t *testing.T) {
	expect := func(name string, a, b api.Law, want api.Errno) {
		t.Helper()
		if got, e := Difference(a, b); e != want || len(got) != 0 {
			t.Errorf("%s: %v, error %d, not %d", name, got, e, want)
		}
	}
	other := lawOf(t, "line 1 12 5")
	other.Tree[0].Name = "school"
	for e, l := range faults(t) {
		expect("a wrong first law", l, full(t), e)
		expect("a wrong second law", full(t), l, e)
		expect("a wrong first law, and another tree", l, other, e)
		expect("a wrong second law, and another tree", other, l, e)
		for _, second := range faults(t) {
			expect("two wrong laws", l, second, e)
		}
	}
	for name, change := range map[string]func(l *api.Law){
		"another first year":   func(l *api.Law) { l.First = 11 },
		"more years":           func(l *api.Law) { l.Years = 3 },
		"another name":         func(l *api.Law) { l.Tree[2].Name = "newer roads" },
		"another heading":      func(l *api.Law) { l.Tree[5].Code = "10" },
		"one heading more":     func(l *api.Law) { l.Tree = append(l.Tree, api.Heading{Code: "10", Name: "x"}) },
		"one heading less":     func(l *api.Law) { l.Tree = l.Tree[:5] },
		"no tree":              func(l *api.Law) { l.Tree = nil },
		"years that end alike": func(l *api.Law) { l.First, l.Years = 11, 3 },
	} {
		l := lawOf(t, "")
		change(&l)
		expect(name, lawOf(t, ""), l, api.ErrInvalid)
		expect(name, l, lawOf(t, ""), api.ErrInvalid)
		expect(name, l, l, api.OK)
	}
}

// differenceOf is Difference by the reference: the amounts at all places, where nothing is like 0, or -1 for ceilings.
func differenceOf(a, b api.Law) map[spot]int {
	x, y := amounts(a), amounts(b)
	want := map[spot]int{}
	for _, kind := range []int{1, 2, 3} {
		for _, h := range a.Tree {
			for _, year := range []int{-1, 12, 13} {
				p := spot{kind, h.Code, year}
				old, isOld := x[p]
				now, isNow := y[p]
				none := 0
				if kind == 2 {
					none = -1
				}
				if !isOld {
					old = none
				}
				if !isNow {
					now = none
				}
				if old != now {
					want[p] = now
				}
			}
		}
	}
	return want
}

// withoutZeros takes lines and floors of 0 away.
func withoutZeros(l api.Law) api.Law {
	l = copied(l)
	l.Lines = slices.DeleteFunc(l.Lines, func(x api.Line) bool { return x.Amount == 0 })
	l.Floors = slices.DeleteFunc(l.Floors, func(x api.Bound) bool { return x.Amount == 0 })
	return l
}

func TestDifferenceMany(t *testing.T) {
	c := chance{rand.New(rand.NewSource(6))}
	for i := range 1000 {
		a, b := c.ordinary(), c.ordinary()
		if i%4 == 0 {
			b = must(Apply(a, c.changes(3)))
		}
		changes, e := Difference(a, b)
		if e != api.OK {
			t.Fatalf("error %d", e)
		}
		got := map[spot]int{}
		for _, x := range changes {
			got[spot{x.Kind, x.Code, x.Year}] = x.Amount
		}
		if want := differenceOf(a, b); !reflect.DeepEqual(got, want) || len(got) != len(changes) {
			t.Errorf("%s, not %v", textOf(changes), want)
		}
		checkOrder(t, changes)
		// Applied to the first law, they lead to the second one.
		led := must(Apply(a, changes))
		led.Earmarks, led.Conditions, led.Rules, led.Amendments = b.Earmarks, b.Conditions, b.Rules, b.Amendments
		same(t, textOf(changes), withoutZeros(led), withoutZeros(b))
		if rest, e := Difference(led, b); len(rest) != 0 || e != api.OK {
			t.Errorf("%s is left, error %d", textOf(rest), e)
		}
		if none, e := Difference(a, a); len(none) != 0 || e != api.OK {
			t.Errorf("%s of a law and itself, error %d", textOf(none), e)
		}
	}
}

// checkOrder fails if changes do not stand in the order that budget.Valid asks for.
func checkOrder(t *testing.T, changes []api.Change) {
	t.Helper()
	l, _, _ := budget.Parse(base)
	for i := 1; i < len(changes); i++ {
		l.Amendments = []api.Amendment{{Number: 1, Changes: changes[i-1 : i+1]}}
		if e := budget.Valid(l); e != api.OK {
			t.Errorf("%s: error %d", textOf(changes), e)
		}
	}
}

// TestDifferenceOfWideLaws has laws with nothing in common.
func TestDifferenceOfWideLaws(t *testing.T) {
	a, b := wide(), wide()
	for i := range b.Lines {
		b.Lines[i].Code = fmt.Sprint(31 + i/4)
	}
	for i := range b.Ceilings {
		b.Ceilings[i].Code, b.Floors[i].Code = fmt.Sprint(31+i/5), fmt.Sprint(31+i/5)
	}
	changes, e := Difference(a, b)
	// One line and one floor of each law are 0.
	if len(changes) != 476 || e != api.OK {
		t.Errorf("%d changes, error %d", len(changes), e)
	}
	same(t, "wide laws", withoutZeros(must(Apply(a, changes))), withoutZeros(b))
}

// P6.4

func TestAmend(t *testing.T) {
	const law = "line 1 12 500; amend 12-01-11 3 line 1 12 600; amend 12-01-11 5 line 1 12 650; amend 12-03-21 4 line 1 12 0"
	for _, c := range []struct {
		name, law   string
		day, number int
		changes     string
		want        string
	}{
		{"the first one", "", 4330, 1, "line 1 12 5", "amend 12-01-11 1 line 1 12 5"},
		{"in front", law, 4329, 9, "floor 1 all 5", "line 1 12 500; amend 12-01-10 9 floor 1 all 5; amend 12-01-11 3 line 1 12 600; amend 12-01-11 5 line 1 12 650; amend 12-03-21 4 line 1 12 0"},
		{"on a day, in front", law, 4330, 2, "floor 1 all 5", "line 1 12 500; amend 12-01-11 2 floor 1 all 5; amend 12-01-11 3 line 1 12 600; amend 12-01-11 5 line 1 12 650; amend 12-03-21 4 line 1 12 0"},
		{"on a day, in between", law, 4330, 4, "floor 1 all 5", "line 1 12 500; amend 12-01-11 3 line 1 12 600; amend 12-01-11 4 floor 1 all 5; amend 12-01-11 5 line 1 12 650; amend 12-03-21 4 line 1 12 0"},
		{"on a day, behind", law, 4330, 6, "floor 1 all 5", "line 1 12 500; amend 12-01-11 3 line 1 12 600; amend 12-01-11 5 line 1 12 650; amend 12-01-11 6 floor 1 all 5; amend 12-03-21 4 line 1 12 0"},
		{"between days, with a number of another day", law, 4399, 4, "floor 1 all 5", "line 1 12 500; amend 12-01-11 3 line 1 12 600; amend 12-01-11 5 line 1 12 650; amend 12-03-20 4 floor 1 all 5; amend 12-03-21 4 line 1 12 0"},
		{"behind", law, lastDay, mostNumber, "floor 1 all 5", "line 1 12 500; amend 12-01-11 3 line 1 12 600; amend 12-01-11 5 line 1 12 650; amend 12-03-21 4 line 1 12 0; amend 99-12-21 1000000 floor 1 all 5"},
		{"put into order", "", 0, 1, "floor 1 12 1; floor 1 all 2; ceiling 2.10 13 3; ceiling 2.9 13 none; line 9 13 0; line 9 12 5; line 1 13 6", "amend 0-01-01 1 line 1 13 6; amend 0-01-01 1 line 9 12 5; amend 0-01-01 1 line 9 13 0; amend 0-01-01 1 ceiling 2.9 13 none; amend 0-01-01 1 ceiling 2.10 13 3; amend 0-01-01 1 floor 1 all 2; amend 0-01-01 1 floor 1 12 1"},
		{"the last one of several", "", 0, 1, "line 1 12 9; floor 1 12 7; line 1 12 3; ceiling 1 12 8; line 1 12 5; floor 1 12 0; ceiling 1 12 none", "amend 0-01-01 1 line 1 12 5; amend 0-01-01 1 ceiling 1 12 none; amend 0-01-01 1 floor 1 12 0"},
		{"what is there already", "line 1 12 500", 0, 1, "line 1 12 500; line 1 13 0", "line 1 12 500; amend 0-01-01 1 line 1 12 500; amend 0-01-01 1 line 1 13 0"},
	} {
		got, e := Amend(lawOf(t, c.law), api.Amendment{Day: c.day, Number: c.number, Changes: changesOf(t, c.changes)})
		if articlesOf(got) != c.want || e != api.OK {
			t.Errorf("%s: %s, error %d, not %s", c.name, articlesOf(got), e, c.want)
		}
	}
}

func TestAmendErrors(t *testing.T) {
	good := changesOf(t, "line 1 12 5")
	for want, l := range faults(t) {
		for _, a := range []api.Amendment{{}, {Day: 5, Number: 1, Changes: good}, {Day: 4330, Number: 1, Changes: good}} {
			got, e := Amend(l, a)
			refused(t, "a wrong law", got, e, want)
		}
	}
	for name, c := range map[string]struct {
		day, number int
		changes     []api.Change
		want        api.Errno
	}{
		"good":                                {5, 1, good, api.OK},
		"there already":                       {4330, 1, good, api.ErrDuplicate},
		"there already, without changes":      {4330, 2, nil, api.ErrDuplicate},
		"there already, with a wrong change":  {4400, 1, []api.Change{{}}, api.ErrDuplicate},
		"there already, the last one":         {lastDay, mostNumber, good, api.ErrDuplicate},
		"another number":                      {4400, 2, good, api.OK},
		"another day":                         {4401, 1, good, api.OK},
		"day -1":                              {-1, 1, good, api.ErrRange},
		"the last day":                        {lastDay, 1, good, api.OK},
		"the day behind":                      {lastDay + 1, 1, good, api.ErrRange},
		"the least day of all":                {math.MinInt, 1, good, api.ErrRange},
		"the greatest day of all":             {math.MaxInt, 1, good, api.ErrRange},
		"number 0":                            {5, 0, good, api.ErrRange},
		"number -1":                           {4330, -1, good, api.ErrRange},
		"the greatest number":                 {5, mostNumber, good, api.OK},
		"the number behind":                   {5, mostNumber + 1, good, api.ErrRange},
		"no changes":                          {5, 1, nil, api.ErrInvalid},
		"an empty list":                       {5, 1, []api.Change{}, api.ErrInvalid},
		"no changes on no day":                {-1, 1, nil, api.ErrRange},
		"a wrong change on no day":            {-1, 1, []api.Change{{}}, api.ErrRange},
		"the first error in order":            {5, 1, []api.Change{{Kind: 3, Code: "3", Year: 12}, {Kind: 1, Code: "1", Year: 14}}, api.ErrYear},
		"texts that are no codes in order":    {5, 1, []api.Change{{Kind: 1, Code: "2.1", Year: 14}, {Kind: 1, Code: "x", Year: 12}}, api.ErrCode},
		"a wrong amount that is not kept":     {5, 1, []api.Change{{Kind: 1, Code: "1", Year: 12, Amount: -1}, {Kind: 1, Code: "1", Year: 12, Amount: 5}}, api.OK},
		"a wrong amount that is kept":         {5, 1, []api.Change{{Kind: 1, Code: "1", Year: 12, Amount: 5}, {Kind: 1, Code: "1", Year: 12, Amount: -1}}, api.ErrRange},
		"a wrong amount between two":          {5, 1, []api.Change{{Kind: 3, Code: "1", Year: 12}, {Kind: 3, Code: "1", Year: 12, Amount: -1}, {Kind: 3, Code: "1", Year: 12}}, api.OK},
		"a wrong code that is not kept twice": {5, 1, []api.Change{{Kind: 1, Code: "01", Year: 12}, {Kind: 1, Code: "1", Year: 12}}, api.ErrCode},
	} {
		got, e := Amend(full(t), api.Amendment{Day: c.day, Number: c.number, Changes: c.changes})
		refused(t, name, got, e, c.want)
	}
	for bad, want := range badChanges() {
		got, e := Amend(full(t), api.Amendment{Day: 5, Number: 1, Changes: []api.Change{bad}})
		refused(t, fmt.Sprint(bad), got, e, want)
	}
}

func TestAmendLimits(t *testing.T) {
	var changes []api.Change
	for i := range 21 {
		changes = append(changes, api.Change{Kind: 3, Code: fmt.Sprint(21 - i), Year: 50, Amount: i})
	}
	amend := func(name string, l api.Law, a api.Amendment, want api.Errno) api.Law {
		t.Helper()
		got, e := Amend(l, a)
		refused(t, name, got, e, want)
		return got
	}
	amend("21 changes", wide(), api.Amendment{Day: 5, Number: 1, Changes: changes}, api.ErrLimit)
	amend("21 changes on no day", wide(), api.Amendment{Day: -5, Number: 0, Changes: changes}, api.ErrLimit)
	amend("21 wrong changes", wide(), api.Amendment{Day: 5, Number: 1, Changes: append([]api.Change{{}}, changes[1:]...)}, api.ErrLimit)
	l := amend("20 changes", wide(), api.Amendment{Day: 5, Number: 1, Changes: changes[1:]}, api.OK)
	if len(l.Amendments) != 1 || len(l.Amendments[0].Changes) != 20 {
		t.Errorf("amendments %v", l.Amendments)
	}
	// More than 20, of which 20 are kept.
	twice := append(slices.Clone(changes), changes[0])
	twice[0].Code, twice[21].Code = "1", "1"
	l = amend("20 changes are kept", wide(), api.Amendment{Day: 5, Number: 1, Changes: twice}, api.OK)
	if len(l.Amendments[0].Changes) != 20 || l.Amendments[0].Changes[0].Amount != 0 || l.Amendments[0].Changes[19].Amount != 1 {
		t.Errorf("changes %v", l.Amendments[0].Changes)
	}
	amend("many", wide(), api.Amendment{Day: 5, Number: 1, Changes: slices.Repeat(changes[1:], 5000)}, api.OK)
	for i := range 20 {
		l = amend("amendments", l, api.Amendment{Day: 40 - i, Number: 1, Changes: changes[:1]}, []api.Errno{api.OK, api.ErrLimit}[i/19])
		if i == 18 {
			amend("21 amendments, no change", l, api.Amendment{Day: -1}, api.ErrLimit)
			amend("there already", l, api.Amendment{Day: 30, Number: 1}, api.ErrDuplicate)
		}
	}
	// The limits of the law in force are not those of the law that is amended.
	amend("a line that is one too many", wide(), api.Amendment{Day: 5, Number: 1, Changes: []api.Change{{Kind: 1, Code: "60", Year: 50, Amount: 1}}}, api.OK)
}

// TestAmendInAnyOrder checks that the law does not depend on the order in which amendments are added, nor on that of their changes.
func TestAmendInAnyOrder(t *testing.T) {
	c := chance{rand.New(rand.NewSource(7))}
	for range 800 {
		l := c.ordinary()
		got := copied(l)
		got.Amendments = nil
		for _, i := range c.Perm(len(l.Amendments)) {
			a := copied(l.Amendments[i])
			c.Shuffle(len(a.Changes), func(i, k int) { a.Changes[i], a.Changes[k] = a.Changes[k], a.Changes[i] })
			// What is set in front by others makes no difference.
			front := copied(a.Changes[:c.Intn(len(a.Changes)+1)])
			for i := range front {
				front[i].Amount = c.Intn(9)
			}
			a.Changes = append(front, a.Changes...)
			got = must(Amend(got, a))
			if e := budget.Valid(got); e != api.OK {
				t.Errorf("error %d of a law that was amended", e)
			}
		}
		same(t, "amended", got, l)
	}
}

func TestAmendOdd(t *testing.T) {
	c := chance{rand.New(rand.NewSource(8))}
	errors := map[api.Errno]int{}
	for i := range 2500 {
		l := c.ordinary()
		if i%4 == 0 {
			l = c.broken(l)
		}
		a := api.Amendment{Day: []int{-1, 0, 1, 4330, lastDay, lastDay + 1}[c.Intn(6)], Number: c.Intn(5)}
		for range c.Intn(4) {
			a.Changes = append(a.Changes, c.odd())
		}
		got, e := Amend(l, a)
		refused(t, fmt.Sprint(a), got, e, amendError(l, a))
		errors[e]++
	}
	for _, e := range []api.Errno{api.OK, api.ErrInvalid, api.ErrCode, api.ErrYear, api.ErrRange, api.ErrOrder, api.ErrDuplicate, api.ErrLimit} {
		if errors[e] < 10 {
			t.Errorf("error %d only %d times", e, errors[e])
		}
	}
}

// amendError is the error of Amend by the reference, for an amendment with few changes.
func amendError(l api.Law, a api.Amendment) api.Errno {
	if e := budget.Valid(l); e != api.OK {
		return e
	}
	if slices.ContainsFunc(l.Amendments, func(x api.Amendment) bool { return x.Day == a.Day && x.Number == a.Number }) {
		return api.ErrDuplicate
	}
	switch {
	case len(l.Amendments) == 20:
		return api.ErrLimit
	case a.Day < 0 || a.Day > lastDay || a.Number < 1 || a.Number > mostNumber:
		return api.ErrRange
	case len(a.Changes) == 0:
		return api.ErrInvalid
	}
	// Insertion by the order of the chapter, written out: kinds, then codes, then years.
	var kept []api.Change
	for _, x := range a.Changes {
		i := 0
		for i < len(kept) && before(kept[i], x) {
			i++
		}
		if i < len(kept) && !before(x, kept[i]) {
			kept[i] = x
			continue
		}
		kept = slices.Insert(kept, i, x)
	}
	return faultOf(l, kept)
}

// before reports whether a change comes before another one.
func before(a, b api.Change) bool {
	if a.Kind != b.Kind {
		return a.Kind < b.Kind
	}
	if a.Code != b.Code {
		return slices.Index(codeOrder(), a.Code) < slices.Index(codeOrder(), b.Code)
	}
	return a.Year < b.Year
}

// codeOrder is the texts of the changes that chance makes, in their order.
func codeOrder() []string {
	long := ""
	for range 500 {
		long += "1."
	}
	return []string{"", "01", "1.", long, "2.010", "x", "\xff", "1", "2", "2.1", "2.9", "2.10", "2.10.1", "3", "9"}
}

// P1, and the rules for memory

// TestMemory checks that no argument is changed, and that results share no memory with arguments, nor their lists with each other.
func TestMemory(t *testing.T) {
	c := chance{rand.New(rand.NewSource(9))}
	laws := []api.Law{full(t), wide(), lawOf(t, "")}
	for range 200 {
		laws = append(laws, c.ordinary())
	}
	for _, l := range laws {
		old, first := copied(l), full(t)
		changes := []api.Change{{Kind: 1, Code: "1", Year: l.First, Amount: 0}, {Kind: 3, Code: "9", Year: -1, Amount: 0}, {Kind: 1, Code: "9", Year: l.First, Amount: 7}}
		oldChanges := copied(changes)
		applied, _ := Apply(l, changes)
		apart(t, "Apply", applied, l, changes)
		none, _ := Apply(l, nil)
		apart(t, "Apply of nothing", none, l)
		for _, day := range days(l) {
			now, _ := InForce(l, day)
			apart(t, "InForce", now, l)
		}
		apart(t, "Days", Days(l), l)
		difference, _ := Difference(l, first)
		apart(t, "Difference", difference, l, first)
		same(t, "Difference", first, full(t))
		a := api.Amendment{Day: 77, Number: 7, Changes: changes}
		amended, _ := Amend(l, a)
		apart(t, "Amend", amended, l, a)
		if !reflect.DeepEqual(l, old) || !reflect.DeepEqual(changes, oldChanges) {
			t.Fatal("an argument was changed")
		}
	}
}

// TestMemoryBehindLists has arguments with room behind their lists, where nothing may be written.
func TestMemoryBehindLists(t *testing.T) {
	l := full(t)
	l.Lines = append(l.Lines, api.Line{Code: "9", Year: 13, Amount: 77})[:len(l.Lines)]
	l.Amendments = append(l.Amendments, api.Amendment{Day: 77})[:len(l.Amendments)]
	if _, e := Apply(l, changesOf(t, "line 9 12 5")); e != api.OK {
		t.Error("no law with a change")
	}
	if _, e := Amend(l, api.Amendment{Day: 5, Number: 5, Changes: changesOf(t, "line 9 12 5")}); e != api.OK {
		t.Error("no law with an amendment")
	}
	if _, e := InForce(l, 4400); e != api.OK {
		t.Error("no law in force")
	}
	if l.Lines[:5][4].Amount != 77 || l.Amendments[:5][4].Day != 77 {
		t.Error("something was written behind a list")
	}
}

// TestAnyArguments checks that nothing panics, and that wrong laws give nothing.
func TestAnyArguments(t *testing.T) {
	c := chance{rand.New(rand.NewSource(10))}
	for range 1000 {
		l, other := c.broken(c.ordinary()), c.broken(c.ordinary())
		valid := budget.Valid(l) == api.OK
		day := []int{math.MinInt, -1, c.Intn(36001), 36001, math.MaxInt}[c.Intn(5)]
		got, e := InForce(l, day)
		if (e == api.OK) != (valid && day >= 0 && day <= 36000) {
			t.Errorf("InForce: error %d", e)
		}
		refused(t, "InForce", got, e, e)
		if !valid && len(Days(l)) > 0 {
			t.Error("days of a law that is not valid")
		}
		changes, e := Difference(l, other)
		if e != api.OK && len(changes) > 0 {
			t.Error("changes with an error")
		}
		var odd []api.Change
		for range c.Intn(30) {
			odd = append(odd, c.odd())
		}
		got, e = Amend(l, api.Amendment{Day: c.Int() - c.Int(), Number: c.Int() - c.Int(), Changes: odd})
		refused(t, "Amend", got, e, e)
	}
}
