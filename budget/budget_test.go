package budget

import (
	"fmt"
	"math"
	"math/rand"
	"reflect"
	"strings"
	"testing"

	"treasury/api"
)

// expect fails if Valid of a law is not an error.
func expect(t *testing.T, name string, l api.Law, want api.Errno) {
	t.Helper()
	if got := Valid(l); got != want {
		t.Errorf("%s: error %d, not %d", name, got, want)
	}
}

// P5.1

func TestValidLaws(t *testing.T) {
	for name, l := range map[string]api.Law{
		"one line":        {First: 12, Years: 1, Tree: []api.Heading{{Code: "1", Name: "schools"}}, Lines: []api.Line{{Code: "1", Year: 12, Amount: 500}}},
		"only years":      {Years: 1},
		"empty lists":     {First: 12, Years: 4, Tree: []api.Heading{}, Lines: []api.Line{}, Ceilings: []api.Bound{}, Floors: []api.Bound{}, Earmarks: []api.Earmark{}, Conditions: []api.Condition{}, Rules: []api.Rule{}, Amendments: []api.Amendment{}},
		"the last year":   {First: 99, Years: 1},
		"four last years": {First: 96, Years: 4},
		"everything":      full(),
	} {
		expect(t, name, l, api.OK)
	}
}

// fault is a change that makes an error of a step of P5.1 of the full law.
type fault struct {
	step   int
	name   string
	want   api.Errno
	change func(l *api.Law)
}

// faults are changes for all errors that the steps name.
func faults() []fault {
	var l []fault
	add := func(step int, want api.Errno, name string, change func(l *api.Law)) {
		l = append(l, fault{step, name, want, change})
	}
	for _, years := range [][2]int{{-1, 1}, {-1, 2}, {100, 1}, {12, 0}, {12, -1}, {12, 5}, {99, 2}, {97, 4}, {96, 5}, {math.MaxInt, 1}, {math.MinInt, 1}, {1, math.MaxInt}, {math.MaxInt, math.MaxInt}, {math.MinInt, math.MinInt}, {0, 0}} {
		add(1, api.ErrRange, fmt.Sprint("years ", years), func(l *api.Law) { l.First, l.Years = years[0], years[1] })
	}
	add(2, api.ErrCode, "heading of no code", func(l *api.Law) { l.Tree[1].Code = "02" })
	add(2, api.ErrSyntax, "heading without a name", func(l *api.Law) { l.Tree[8].Name = "" })
	add(2, api.ErrOrder, "headings out of order", func(l *api.Law) { l.Tree[3], l.Tree[4] = l.Tree[4], l.Tree[3] })
	add(2, api.ErrOrder, "heading twice", func(l *api.Law) { l.Tree[3] = l.Tree[2] })
	add(2, api.ErrUnknown, "heading without its parent", func(l *api.Law) { l.Tree[1].Code = "1.1" })
	add(2, api.ErrLimit, "61 headings", func(l *api.Law) { l.Tree = many(l.Tree, 61) })

	add(3, api.ErrLimit, "121 lines", func(l *api.Law) { l.Lines = many(l.Lines, 121) })
	add(3, api.ErrLimit, "61 ceilings", func(l *api.Law) { l.Ceilings = many(l.Ceilings, 61) })
	add(3, api.ErrLimit, "61 floors", func(l *api.Law) { l.Floors = many(l.Floors, 61) })
	add(3, api.ErrLimit, "21 earmarks", func(l *api.Law) { l.Earmarks = many(l.Earmarks, 21) })
	add(3, api.ErrLimit, "21 conditions", func(l *api.Law) { l.Conditions = many(l.Conditions, 21) })
	add(3, api.ErrLimit, "21 rules", func(l *api.Law) { l.Rules = many(l.Rules, 21) })
	add(3, api.ErrLimit, "21 amendments", func(l *api.Law) { l.Amendments = many(l.Amendments, 21) })
	add(3, api.ErrLimit, "21 changes", func(l *api.Law) { l.Amendments[3].Changes = many(l.Amendments[3].Changes, 21) })

	add(4, api.ErrCode, "line of a code with others under it", func(l *api.Law) { l.Lines[2].Code = "2" })
	add(4, api.ErrCode, "line of a code that is not there", func(l *api.Law) { l.Lines[2].Code = "2.3" })
	add(4, api.ErrCode, "line of no code", func(l *api.Law) { l.Lines[0].Code = "" })
	add(4, api.ErrYear, "line of a year before", func(l *api.Law) { l.Lines[0].Year = 11 })
	add(4, api.ErrYear, "line of a year behind", func(l *api.Law) { l.Lines[4].Year = 14 })
	add(4, api.ErrYear, "line of all years", func(l *api.Law) { l.Lines[0].Year = -1 })
	add(4, api.ErrRange, "line of -1", func(l *api.Law) { l.Lines[0].Amount = -1 })
	add(4, api.ErrRange, "line of too much", func(l *api.Law) { l.Lines[4].Amount = mostAmount + 1 })
	add(4, api.ErrOrder, "line twice", func(l *api.Law) { l.Lines[1].Year = 12 })
	add(4, api.ErrOrder, "lines with years out of order", func(l *api.Law) { l.Lines[0], l.Lines[1] = l.Lines[1], l.Lines[0] })
	add(4, api.ErrOrder, "lines with codes out of order", func(l *api.Law) { l.Lines[3].Code, l.Lines[4].Code = "2.10", "2.2" })

	bounds := func(name string, of func(l *api.Law) []api.Bound) {
		add(5, api.ErrCode, name+" of a code that is not there", func(l *api.Law) { of(l)[2].Code = "3" })
		add(5, api.ErrCode, name+" of no code", func(l *api.Law) { of(l)[0].Code = "2." })
		add(5, api.ErrYear, name+" of a year before", func(l *api.Law) { of(l)[0].Year = 11 })
		add(5, api.ErrYear, name+" of a year behind", func(l *api.Law) { of(l)[2].Year = 14 })
		add(5, api.ErrYear, name+" of year -2", func(l *api.Law) { of(l)[0].Year = -2 })
		add(5, api.ErrRange, name+" of -1", func(l *api.Law) { of(l)[0].Amount = -1 })
		add(5, api.ErrRange, name+" of too much", func(l *api.Law) { of(l)[2].Amount = mostAmount + 1 })
		add(5, api.ErrOrder, name+" twice", func(l *api.Law) { of(l)[1].Year = -1 })
		add(5, api.ErrOrder, name+" of all years behind another one", func(l *api.Law) { of(l)[0].Year, of(l)[1].Year = 12, -1 })
		add(5, api.ErrOrder, name+"s with codes out of order", func(l *api.Law) { of(l)[0].Code = "9.2" })
	}
	bounds("ceiling", func(l *api.Law) []api.Bound { return l.Ceilings })
	bounds("floor", func(l *api.Law) []api.Bound { return l.Floors })
	return append(l, laterFaults()...)
}

// laterFaults are those of the steps 6 to 9.
func laterFaults() []fault {
	var l []fault
	add := func(step int, want api.Errno, name string, change func(l *api.Law)) {
		l = append(l, fault{step, name, want, change})
	}
	add(6, api.ErrCode, "earmark of a source that is not there", func(l *api.Law) { l.Earmarks[4].Source = "9.3" })
	add(6, api.ErrCode, "earmark of no source", func(l *api.Law) { l.Earmarks[0].Source = "" })
	add(6, api.ErrCode, "earmark for a code with others under it", func(l *api.Law) { l.Earmarks[4].Code = "2" })
	add(6, api.ErrCode, "earmark for a code that is not there", func(l *api.Law) { l.Earmarks[4].Code = "2.3" })
	add(6, api.ErrRange, "earmark of -1 percent", func(l *api.Law) { l.Earmarks[0].Percent = -1 })
	add(6, api.ErrRange, "earmark of 101 percent", func(l *api.Law) { l.Earmarks[4].Percent = 101 })
	add(6, api.ErrOrder, "earmark twice", func(l *api.Law) { l.Earmarks[1].Code = "2.1" })
	add(6, api.ErrOrder, "earmarks with codes out of order", func(l *api.Law) { l.Earmarks[1].Code, l.Earmarks[2].Code = "2.1", "1" })
	add(6, api.ErrOrder, "earmarks with sources out of order", func(l *api.Law) { l.Earmarks[0].Source = "9.1.1" })
	add(6, api.ErrShare, "101 percent of a leaf", func(l *api.Law) { l.Earmarks[3].Percent = 11 })
	add(6, api.ErrShare, "101 percent of another leaf", func(l *api.Law) { l.Earmarks[4].Percent = 61 })
	add(6, api.ErrShare, "101 percent by an earmark of all revenue", func(l *api.Law) { l.Earmarks[0].Percent = 41 })

	add(7, api.ErrInvalid, "condition of kind 0", func(l *api.Law) { l.Conditions[3].Kind = 0 })
	add(7, api.ErrInvalid, "condition of kind 3", func(l *api.Law) { l.Conditions[3].Kind = 3 })
	add(7, api.ErrInvalid, "condition of a day with a source", func(l *api.Law) { l.Conditions[1].Source = "9" })
	add(7, api.ErrInvalid, "condition of a day with a least amount", func(l *api.Law) { l.Conditions[1].Least = 1 })
	add(7, api.ErrInvalid, "condition of what is received with a day", func(l *api.Law) { l.Conditions[4].Day = 1 })
	add(7, api.ErrCode, "condition of a code with others under it", func(l *api.Law) { l.Conditions[0].Code = "2" })
	add(7, api.ErrCode, "condition of a code that is not there", func(l *api.Law) { l.Conditions[3].Code = "2.3" })
	add(7, api.ErrCode, "condition of a source that is not there", func(l *api.Law) { l.Conditions[0].Source = "9.3" })
	add(7, api.ErrCode, "condition of what is received without a source", func(l *api.Law) { l.Conditions[4].Source = "" })
	add(7, api.ErrYear, "condition of a year before", func(l *api.Law) { l.Conditions[0].Year = 11 })
	add(7, api.ErrYear, "condition of all years", func(l *api.Law) { l.Conditions[3].Year = -1 })
	add(7, api.ErrYear, "condition of a year behind", func(l *api.Law) { l.Conditions[4].Year = 14 })
	add(7, api.ErrRange, "condition of -1", func(l *api.Law) { l.Conditions[1].Amount = -1 })
	add(7, api.ErrRange, "condition of too much", func(l *api.Law) { l.Conditions[4].Amount = mostAmount + 1 })
	add(7, api.ErrRange, "condition of less than nothing", func(l *api.Law) { l.Conditions[0].Least = -1 })
	add(7, api.ErrRange, "condition of too much that is received", func(l *api.Law) { l.Conditions[4].Least = mostAmount + 1 })
	add(7, api.ErrRange, "condition of day -1", func(l *api.Law) { l.Conditions[3].Day = -1 })
	add(7, api.ErrRange, "condition of a day that is too late", func(l *api.Law) { l.Conditions[1].Day = lastDay + 1 })

	add(8, api.ErrRange, "rule 0", func(l *api.Law) { l.Rules[0].Number = 0 })
	add(8, api.ErrRange, "rule -1", func(l *api.Law) { l.Rules[0].Number = -1 })
	add(8, api.ErrRange, "rule 1000001", func(l *api.Law) { l.Rules[3].Number = mostNumber + 1 })
	add(8, api.ErrRange, "rule of -1 percent", func(l *api.Law) { l.Rules[2].Percent = -1 })
	add(8, api.ErrRange, "rule of 101 percent", func(l *api.Law) { l.Rules[1].Percent = 101 })
	add(8, api.ErrCode, "rule from a code that is not there", func(l *api.Law) { l.Rules[0].From = "3" })
	add(8, api.ErrCode, "rule to a code that is not there", func(l *api.Law) { l.Rules[3].To = "9.1.2" })
	add(8, api.ErrCode, "rule to no code", func(l *api.Law) { l.Rules[3].To = "" })
	add(8, api.ErrOrder, "rule twice", func(l *api.Law) { l.Rules[1].Number = 1 })
	add(8, api.ErrOrder, "rules out of order", func(l *api.Law) { l.Rules[1], l.Rules[2] = l.Rules[2], l.Rules[1] })

	add(9, api.ErrRange, "amendment of day -1", func(l *api.Law) { l.Amendments[0].Day = -1 })
	add(9, api.ErrRange, "amendment of a day that is too late", func(l *api.Law) { l.Amendments[3].Day = lastDay + 1 })
	add(9, api.ErrRange, "amendment 0", func(l *api.Law) { l.Amendments[0].Number = 0 })
	add(9, api.ErrRange, "amendment 1000001", func(l *api.Law) { l.Amendments[3].Number = mostNumber + 1 })
	add(9, api.ErrOrder, "amendment twice", func(l *api.Law) { l.Amendments[2].Number = 1 })
	add(9, api.ErrOrder, "amendments with numbers out of order", func(l *api.Law) { l.Amendments[1].Number = 3 })
	add(9, api.ErrOrder, "amendments with days out of order", func(l *api.Law) { l.Amendments[0].Day = 4401 })
	add(9, api.ErrInvalid, "amendment without changes", func(l *api.Law) { l.Amendments[3].Changes = nil })
	add(9, api.ErrInvalid, "change of kind 0", func(l *api.Law) { l.Amendments[0].Changes[0].Kind = 0 })
	add(9, api.ErrInvalid, "change of kind 4", func(l *api.Law) { l.Amendments[0].Changes[0].Kind = 4 })
	add(9, api.ErrCode, "change of a code that is not there", func(l *api.Law) { l.Amendments[1].Changes[6].Code = "3" })
	add(9, api.ErrCode, "changed ceiling of no code", func(l *api.Law) { l.Amendments[1].Changes[4].Code = "" })
	add(9, api.ErrCode, "changed line of a code with others under it", func(l *api.Law) { l.Amendments[2].Changes[0].Code = "2" })
	add(9, api.ErrYear, "changed line of all years", func(l *api.Law) { l.Amendments[3].Changes[0].Year = -1 })
	add(9, api.ErrYear, "changed line of a year behind", func(l *api.Law) { l.Amendments[3].Changes[0].Year = 14 })
	add(9, api.ErrYear, "changed ceiling of a year before", func(l *api.Law) { l.Amendments[1].Changes[3].Year = 11 })
	add(9, api.ErrYear, "changed floor of year -2", func(l *api.Law) { l.Amendments[1].Changes[5].Year = -2 })
	add(9, api.ErrRange, "changed line of no amount", func(l *api.Law) { l.Amendments[1].Changes[0].Amount = -1 })
	add(9, api.ErrRange, "changed floor of no amount", func(l *api.Law) { l.Amendments[1].Changes[5].Amount = -1 })
	add(9, api.ErrRange, "changed ceiling of -2", func(l *api.Law) { l.Amendments[1].Changes[2].Amount = -2 })
	add(9, api.ErrRange, "changed line of too much", func(l *api.Law) { l.Amendments[2].Changes[0].Amount = mostAmount + 1 })
	add(9, api.ErrOrder, "change twice", func(l *api.Law) { l.Amendments[1].Changes[3].Year = -1 })
	add(9, api.ErrOrder, "changes with kinds out of order", func(l *api.Law) { l.Amendments[1].Changes[1].Kind = 3 })
	add(9, api.ErrOrder, "changes with codes out of order", func(l *api.Law) { l.Amendments[1].Changes[0].Code = "2.2" })
	add(9, api.ErrOrder, "changes with years out of order", func(l *api.Law) { l.Amendments[1].Changes[5].Year = 13 })
	return l
}

// many makes a list longer, with a zero entry and its own ones again.
func many[T any](l []T, n int) []T {
	l = append(l, make([]T, 1)...)
	for len(l) < n {
		l = append(l, l...)
	}
	return l[:n]
}

func TestErrorsOfValid(t *testing.T) {
	for _, f := range faults() {
		expect(t, f.name, changed(full(), f.change), f.want)
	}
}

func TestOrderOfSteps(t *testing.T) {
	for _, first := range faults() {
		for _, later := range faults() {
			if first.step < later.step {
				l := changed(full(), later.change)
				first.change(&l)
				expect(t, first.name+", and "+later.name, l, first.want)
			}
		}
	}
}

// TestOrderInSteps has one law a row, each with the errors that stand behind the one that it names.
func TestOrderInSteps(t *testing.T) {
	for name, c := range map[string]struct {
		want   api.Errno
		change func(l *api.Law)
	}{
		"line: code":             {api.ErrCode, func(l *api.Law) { l.Lines[1] = api.Line{Code: "2", Year: 11, Amount: -1} }},
		"line: year":             {api.ErrYear, func(l *api.Law) { l.Lines[1] = api.Line{Code: "1", Year: 11, Amount: -1} }},
		"line: amount":           {api.ErrRange, func(l *api.Law) { l.Lines[1] = api.Line{Code: "1", Year: 12, Amount: -1} }},
		"first line":             {api.ErrOrder, func(l *api.Law) { l.Lines[1].Year, l.Lines[2].Code = 12, "" }},
		"ceiling: code":          {api.ErrCode, func(l *api.Law) { l.Ceilings[1] = api.Bound{Code: "3", Year: -2, Amount: -1} }},
		"ceiling: year":          {api.ErrYear, func(l *api.Law) { l.Ceilings[1] = api.Bound{Code: "1", Year: -2, Amount: -1} }},
		"ceiling: amount":        {api.ErrRange, func(l *api.Law) { l.Ceilings[1] = api.Bound{Code: "1", Year: -1, Amount: -1} }},
		"ceilings before floors": {api.ErrOrder, func(l *api.Law) { l.Ceilings[4].Code, l.Floors[0].Code = "1", "" }},
		"floor: code":            {api.ErrCode, func(l *api.Law) { l.Floors[1] = api.Bound{Code: "3", Year: -2, Amount: -1} }},
		"floor: year":            {api.ErrYear, func(l *api.Law) { l.Floors[1] = api.Bound{Code: "2", Year: -2, Amount: -1} }},
		"floor: amount":          {api.ErrRange, func(l *api.Law) { l.Floors[1] = api.Bound{Code: "2", Year: -1, Amount: -1} }},
		"first floor":            {api.ErrOrder, func(l *api.Law) { l.Floors[1].Year, l.Floors[2].Code = -1, "" }},
		"earmark: source":        {api.ErrCode, func(l *api.Law) { l.Earmarks[1] = api.Earmark{Source: "3", Code: "1", Percent: 101} }},
		"earmark: code":          {api.ErrCode, func(l *api.Law) { l.Earmarks[1] = api.Earmark{Source: "9", Code: "2", Percent: 101} }},
		"earmark: percent":       {api.ErrRange, func(l *api.Law) { l.Earmarks[1] = api.Earmark{Source: "9", Code: "1", Percent: 101} }},
		"earmark: order":         {api.ErrOrder, func(l *api.Law) { l.Earmarks[1] = api.Earmark{Source: "9", Code: "1", Percent: 100} }},
		"first earmark":          {api.ErrOrder, func(l *api.Law) { l.Earmarks[1].Source, l.Earmarks[2].Source = "1", "" }},
		"shares of all":          {api.ErrCode, func(l *api.Law) { l.Earmarks[0].Percent, l.Earmarks[4].Code = 41, "9" }},
		"condition: kind":        {api.ErrInvalid, func(l *api.Law) { l.Conditions[1] = api.Condition{Code: "2", Year: 11, Amount: -1} }},
		"condition: other fields": {api.ErrInvalid, func(l *api.Law) {
			l.Conditions[1] = api.Condition{Kind: 1, Code: "2", Year: 11, Amount: -1, Source: "x"}
		}},
		"condition: day":  {api.ErrInvalid, func(l *api.Law) { l.Conditions[1] = api.Condition{Kind: 2, Code: "2", Year: 11, Amount: -1, Day: -1} }},
		"condition: code": {api.ErrCode, func(l *api.Law) { l.Conditions[1] = api.Condition{Kind: 1, Code: "2", Year: 11, Amount: -1, Day: -1} }},
		"condition: source": {api.ErrCode, func(l *api.Law) {
			l.Conditions[1] = api.Condition{Kind: 2, Code: "1", Year: 11, Amount: -1, Source: "3", Least: -1}
		}},
		"condition: year": {api.ErrYear, func(l *api.Law) {
			l.Conditions[1] = api.Condition{Kind: 2, Code: "1", Year: 11, Amount: -1, Source: "9", Least: -1}
		}},
		"first condition":   {api.ErrRange, func(l *api.Law) { l.Conditions[1].Amount, l.Conditions[2].Kind = -1, 0 }},
		"rule: number":      {api.ErrRange, func(l *api.Law) { l.Rules[1] = api.Rule{From: "3", To: "3"} }},
		"rule: percent":     {api.ErrRange, func(l *api.Law) { l.Rules[1] = api.Rule{Number: 1, From: "3", To: "3", Percent: 101} }},
		"rule: code":        {api.ErrCode, func(l *api.Law) { l.Rules[1] = api.Rule{Number: 1, From: "1", To: "3"} }},
		"first rule":        {api.ErrOrder, func(l *api.Law) { l.Rules[1].Number, l.Rules[2].Number = 1, 0 }},
		"amendment: day":    {api.ErrRange, func(l *api.Law) { l.Amendments[1] = api.Amendment{Day: -1, Number: 1} }},
		"amendment: number": {api.ErrRange, func(l *api.Law) { l.Amendments[1] = api.Amendment{} }},
		"amendment: order":  {api.ErrOrder, func(l *api.Law) { l.Amendments[1] = api.Amendment{Number: 7} }},
		"first amendment":   {api.ErrInvalid, func(l *api.Law) { l.Amendments[0].Changes, l.Amendments[1].Number = nil, 0 }},
		"order before changes": {api.ErrOrder, func(l *api.Law) {
			l.Amendments[1] = api.Amendment{Day: 0, Number: 7, Changes: []api.Change{{}}}
		}},
		"changes before the next": {api.ErrYear, func(l *api.Law) { l.Amendments[0].Changes[0].Year, l.Amendments[1].Number = 11, 0 }},
		"change: kind":            {api.ErrInvalid, func(l *api.Law) { l.Amendments[1].Changes[1] = api.Change{Code: "3", Year: -2, Amount: -2} }},
		"change: code":            {api.ErrCode, func(l *api.Law) { l.Amendments[1].Changes[1] = api.Change{Kind: 1, Code: "2", Year: -1, Amount: -1} }},
		"change: year":            {api.ErrYear, func(l *api.Law) { l.Amendments[1].Changes[1] = api.Change{Kind: 1, Code: "1", Year: -1, Amount: -1} }},
		"change: amount":          {api.ErrRange, func(l *api.Law) { l.Amendments[1].Changes[1] = api.Change{Kind: 1, Code: "1", Year: 12, Amount: -1} }},
		"change: order":           {api.ErrOrder, func(l *api.Law) { l.Amendments[1].Changes[1] = api.Change{Kind: 1, Code: "1", Year: 12} }},
		"first change":            {api.ErrOrder, func(l *api.Law) { l.Amendments[1].Changes[1].Code, l.Amendments[1].Changes[2].Kind = "1", 0 }},
	} {
		expect(t, name, changed(full(), c.change), c.want)
	}
}

// TestNoErrorsOfValid has changes of the full law that are permitted.
func TestNoErrorsOfValid(t *testing.T) {
	for name, change := range map[string]func(l *api.Law){
		"conditions in any order":         func(l *api.Law) { l.Conditions[0], l.Conditions[3] = l.Conditions[3], l.Conditions[0] },
		"a ceiling under a floor":         func(l *api.Law) { l.Ceilings[1].Amount, l.Floors[1].Amount = 0, mostAmount },
		"lines that break their bounds":   func(l *api.Law) { l.Lines[0].Amount = mostAmount },
		"an earmark of 0 percent":         func(l *api.Law) { l.Earmarks[4].Percent = 0 },
		"an earmark of 100 percent":       func(l *api.Law) { l.Earmarks = []api.Earmark{{Source: "9.2", Code: "2.2", Percent: 100}} },
		"an earmark for its own source":   func(l *api.Law) { l.Earmarks[4].Code = "9.2" },
		"100 percent of each of two":      func(l *api.Law) { l.Earmarks[1].Percent, l.Earmarks[2].Percent = 50, 0 },
		"a rule from and to one code":     func(l *api.Law) { l.Rules[0].To = "1" },
		"a rule of all and of nothing":    func(l *api.Law) { l.Rules[0].Percent, l.Rules[1].Percent = 100, 0 },
		"two equal conditions":            func(l *api.Law) { l.Conditions[0] = l.Conditions[4] },
		"a change to what is there":       func(l *api.Law) { l.Amendments[1].Changes[0].Amount = 500 },
		"a removed ceiling of all years":  func(l *api.Law) { l.Amendments[0].Changes[0] = api.Change{Kind: 2, Code: "9.1", Year: -1, Amount: -1} },
		"a changed floor of all years":    func(l *api.Law) { l.Amendments[0].Changes[0] = api.Change{Kind: 3, Code: "9.1", Year: -1} },
		"equal changes in two amendments": func(l *api.Law) { l.Amendments[0].Changes[0], l.Amendments[0].Day = l.Amendments[2].Changes[0], 4399 },
	} {
		expect(t, name, changed(full(), change), api.OK)
	}
}

// longest is a valid law whose lists are as long as they may be.
func longest() api.Law {
	l := api.Law{First: 50, Years: 4}
	for i := 1; i <= 60; i++ {
		l.Tree = append(l.Tree, api.Heading{Code: fmt.Sprint(i), Name: strings.Repeat("n", 40)})
	}
	for i := range 120 {
		l.Lines = append(l.Lines, api.Line{Code: fmt.Sprint(1 + i/4), Year: 50 + i%4, Amount: mostAmount})
	}
	for i := range 60 {
		x := api.Bound{Code: fmt.Sprint(1 + i/5), Year: 49 + i%5, Amount: mostAmount}
		if i%5 == 0 {
			x.Year = -1
		}
		l.Ceilings, l.Floors = append(l.Ceilings, x), append(l.Floors, x)
	}
	for i := range 20 {
		a := api.Amendment{Day: lastDay, Number: mostNumber - 19 + i}
		for k := range 20 {
			a.Changes = append(a.Changes, api.Change{Kind: 1 + k/10, Code: fmt.Sprint(1 + k%10), Year: 50, Amount: mostAmount})
		}
		l.Earmarks = append(l.Earmarks, api.Earmark{Source: fmt.Sprint(1 + i/10), Code: fmt.Sprint(1 + i), Percent: 10})
		l.Conditions = append(l.Conditions, api.Condition{Code: "1", Year: 53, Amount: mostAmount, Kind: 2, Source: "9", Least: mostAmount})
		l.Rules = append(l.Rules, api.Rule{Number: mostNumber - 19 + i, From: "9", To: "10", Percent: 100})
		l.Amendments = append(l.Amendments, a)
	}
	return l
}

func TestLongestLaw(t *testing.T) {
	expect(t, "the longest law", longest(), api.OK)
	number := 0
	for v := range lists(&api.Law{Amendments: make([]api.Amendment, 20)}) {
		l := longest()
		i := 0
		for w := range lists(&l) {
			if i == number {
				w.Set(reflect.AppendSlice(w, w.Slice(w.Len()-1, w.Len())))
			}
			i++
		}
		expect(t, fmt.Sprint("list ", number, " of ", v.Type(), " with one more"), l, api.ErrLimit)
		number++
	}
	if number != 28 {
		t.Errorf("%d lists", number)
	}
}

func TestHugeLists(t *testing.T) {
	l := full()
	l.Lines, l.Earmarks, l.Amendments = make([]api.Line, 1000000), make([]api.Earmark, 1000000), make([]api.Amendment, 1000000)
	expect(t, "huge lists", l, api.ErrLimit)
	l.Tree = make([]api.Heading, 1000000)
	l.Tree[0].Code = "x"
	expect(t, "a huge tree", l, api.ErrLimit)
}

func TestValidOfAllFields(t *testing.T) {
	n := 0
	for range fields(&[]api.Law{full()}[0]) {
		n++
	}
	for i := range n {
		for _, x := range numbers() {
			l := full()
			k := 0
			for v := range fields(&l) {
				if k == i && v.Kind() == reflect.Int {
					v.SetInt(int64(x))
				}
				k++
			}
			checkFault(t, l)
		}
		for _, x := range words() {
			l := full()
			k := 0
			for v := range fields(&l) {
				if k == i && v.Kind() == reflect.String {
					v.SetString(x)
				}
				k++
			}
			checkFault(t, l)
		}
	}
}

func TestValidOfManyLaws(t *testing.T) {
	c := chance{rand.New(rand.NewSource(1))}
	errors := map[api.Errno]int{}
	for i := range 15000 {
		l := full()
		if i%3 > 0 {
			l = c.law(1 + c.Intn(12))
			if e := checkFault(t, l); e != api.OK {
				t.Errorf("error %d of what should be a valid law", e)
			}
		}
		for range 1 + c.Intn(3) {
			c.disturb(&l)
		}
		errors[checkFault(t, l)]++
	}
	for _, e := range []api.Errno{api.OK, api.ErrRange, api.ErrSyntax, api.ErrCode, api.ErrUnknown, api.ErrOrder, api.ErrYear, api.ErrShare, api.ErrInvalid} {
		if errors[e] < 10 {
			t.Errorf("only %d laws with error %d", errors[e], e)
		}
	}
}

// P5.2

func TestCodesOfALaw(t *testing.T) {
	l := full()
	for code, want := range map[string][2]bool{
		"1": {true, true}, "2": {true, false}, "2.1": {true, true}, "2.2": {true, true}, "2.10": {true, true}, "9": {true, false}, "9.1": {true, false}, "9.1.1": {true, true}, "9.2": {true, true},
		"3": {}, "2.3": {}, "2.1.1": {}, "1.1": {}, "": {}, "x": {}, "01": {}, "1.": {}, "all": {}, "2.01": {}, "2.1 ": {}, "schools": {},
	} {
		if got := [2]bool{Has(l, code), Leaf(l, code)}; got != want {
			t.Errorf("%q: in the law, leaf: %v", code, got)
		}
	}
	// A law that is not valid: no years, headings out of order, twice, without a parent, and one that is no code.
	l = api.Law{Tree: []api.Heading{{Code: "3.1"}, {Code: "x"}, {Code: ""}, {Code: "1"}, {Code: "1"}, {Code: "3"}, {Code: "5.5"}}}
	for code, want := range map[string][2]bool{"1": {true, true}, "3": {true, false}, "3.1": {true, true}, "5.5": {true, true}, "5": {}, "x": {}, "": {}} {
		if got := [2]bool{Has(l, code), Leaf(l, code)}; got != want {
			t.Errorf("%q of a law that is not valid: in the law, leaf: %v", code, got)
		}
	}
	if Has(api.Law{}, "1") || Leaf(api.Law{}, "1") || Has(api.Law{}, "") || Leaf(api.Law{}, "") {
		t.Error("a law without headings has a code")
	}
}

func TestYearsOfALaw(t *testing.T) {
	for _, c := range []struct {
		first, years int
		in, out      []int
	}{
		{12, 2, []int{12, 13}, []int{11, 14, -1, 0, math.MinInt, math.MaxInt}},
		{12, 1, []int{12}, []int{11, 13}},
		{0, 4, []int{0, 1, 2, 3}, []int{-1, 4}},
		{12, 0, nil, []int{11, 12, 13}},
		{12, -2, nil, []int{9, 10, 11, 12, 13, math.MaxInt, math.MinInt}},
		{-5, 10, []int{-5, -1, 0, 4}, []int{-6, 5}},
		{99, 1000, []int{99, 1098}, []int{98, 1099}},
		{math.MaxInt, 1, []int{math.MaxInt}, []int{math.MaxInt - 1, math.MinInt, 0}},
		{math.MaxInt - 1, 5, []int{math.MaxInt - 1, math.MaxInt}, []int{math.MaxInt - 2, math.MinInt, math.MinInt + 2, 0}},
		{math.MinInt, 1, []int{math.MinInt}, []int{math.MinInt + 1, 0, math.MaxInt}},
		{math.MinInt, math.MaxInt, []int{math.MinInt, -2}, []int{-1, 0, math.MaxInt}},
		{-1, math.MaxInt, []int{-1, 0, math.MaxInt - 2}, []int{-2, math.MaxInt - 1, math.MaxInt}},
		{1, math.MaxInt, []int{1, math.MaxInt}, []int{0, math.MinInt}},
		{5, math.MinInt, nil, []int{5, 4, 6, math.MinInt, math.MaxInt}},
		{math.MinInt, math.MinInt, nil, []int{math.MinInt, 0, math.MaxInt}},
	} {
		l := api.Law{First: c.first, Years: c.years}
		for _, year := range c.in {
			if !In(l, year) {
				t.Errorf("year %d is none of %d from %d on", year, c.years, c.first)
			}
		}
		for _, year := range c.out {
			if In(l, year) {
				t.Errorf("year %d is one of %d from %d on", year, c.years, c.first)
			}
		}
	}
}

func TestLine(t *testing.T) {
	l := full()
	l.Lines = append(l.Lines, api.Line{Code: "1", Year: 12, Amount: 7}, api.Line{Code: "2", Year: -1, Amount: -8}, api.Line{Code: "9.2", Year: 99, Amount: math.MinInt}, api.Line{Code: "x", Year: 12, Amount: 6})
	for _, c := range []struct {
		code       string
		year, want int
	}{
		{"1", 12, 500}, {"1", 13, 510}, {"2.1", 12, 0}, {"2.2", 13, 70}, {"2.10", 12, mostAmount}, {"2", -1, -8}, {"9.2", 99, math.MinInt}, {"x", 12, 6},
		{"1", 14, 0}, {"1", -1, 0}, {"2.1", 13, 0}, {"2.2", 12, 0}, {"2", 12, 0}, {"", 12, 0}, {"01", 12, 0}, {"9.1", 99, 0}, {"y", 12, 0},
	} {
		if got := Line(l, c.code, c.year); got != c.want {
			t.Errorf("line of %q in %d: %d, not %d", c.code, c.year, got, c.want)
		}
	}
	if Line(api.Law{}, "", 0) != 0 || Line(api.Law{}, "1", 12) != 0 {
		t.Error("line of a law without lines")
	}
}

func TestTotal(t *testing.T) {
	l := full()
	for _, c := range []struct {
		top        string
		year, want int
	}{
		{"1", 12, 500}, {"1", 13, 510}, {"1", -1, 1010}, {"2", 12, mostAmount}, {"2", 13, 70}, {"2", -1, mostAmount + 70}, {"2.1", -1, 0}, {"", 12, mostAmount + 500}, {"", 13, 580}, {"", -1, mostAmount + 1080},
		{"9", -1, 0}, {"3", -1, 0}, {"", 14, 0}, {"1", 11, 0}, {"x", -1, 0}, {"2.", -1, 0},
	} {
		if got, e := Total(l, c.top, c.year); got != c.want || e != api.OK {
			t.Errorf("total of %q in %d: %d, error %d, not %d", c.top, c.year, got, e, c.want)
		}
	}
	// Lines of any law: those of codes that are not in it, too.
	l = api.Law{Lines: []api.Line{{Code: "5.5", Year: 3, Amount: mostTotal}, {Code: "5.6", Year: 3, Amount: 1}, {Code: "5.6", Year: 4, Amount: -1}}}
	for _, c := range []struct {
		top        string
		year, want int
		e          api.Errno
	}{
		{"5", 3, 0, api.ErrRange}, {"", 3, 0, api.ErrRange}, {"5", -1, 0, api.ErrRange}, {"5.5", 3, mostTotal, api.OK}, {"5.6", -1, 0, api.OK}, {"5.6", 4, -1, api.OK}, {"", 4, -1, api.OK}, {"", 5, 0, api.OK},
	} {
		if got, e := Total(l, c.top, c.year); got != c.want || e != c.e {
			t.Errorf("total of %q in %d: %d, error %d, not %d, error %d", c.top, c.year, got, e, c.want, c.e)
		}
	}
}
