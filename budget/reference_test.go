package budget

import (
	"fmt"
	"math"
	"math/rand"
	"reflect"
	"regexp"
	"slices"
	"sort"
	"strings"
	"testing"

	"treasury/api"
)

// The limits are written out here as the document has them, so that a wrong one shows.
const (
	mostAmount = 1000000000000
	mostTotal  = 1000000000000000
	mostNumber = 1000000
	mostText   = 12000
	lastDay    = 35990
)

// full is a valid law that has everything, with the ends of the ranges.
func full() api.Law {
	return api.Law{
		First: 12, Years: 2,
		Tree: []api.Heading{
			{Code: "1", Name: "schools"}, {Code: "2", Name: "roads and bridges"}, {Code: "2.1", Name: "new roads"}, {Code: "2.2", Name: "repairs"}, {Code: "2.10", Name: "bridges"},
			{Code: "9", Name: "revenue"}, {Code: "9.1", Name: "taxes"}, {Code: "9.1.1", Name: "income tax"}, {Code: "9.2", Name: "fees"},
		},
		Lines: []api.Line{
			{Code: "1", Year: 12, Amount: 500}, {Code: "1", Year: 13, Amount: 510}, {Code: "2.1", Year: 12}, {Code: "2.2", Year: 13, Amount: 70}, {Code: "2.10", Year: 12, Amount: mostAmount},
		},
		Ceilings: []api.Bound{
			{Code: "1", Year: -1, Amount: 2000}, {Code: "1", Year: 12, Amount: 600}, {Code: "2", Year: 13, Amount: mostAmount}, {Code: "2.2", Year: -1, Amount: 90}, {Code: "9", Year: 12},
		},
		Floors:   []api.Bound{{Code: "2", Year: -1, Amount: 20}, {Code: "2", Year: 12, Amount: 7}, {Code: "2.10", Year: 12, Amount: 1}},
		Earmarks: []api.Earmark{{Source: "9", Code: "2.1", Percent: 40}, {Source: "9.1", Code: "1", Percent: 30}, {Source: "9.1", Code: "2.1", Percent: 20}, {Source: "9.1.1", Code: "2.10", Percent: 10}, {Source: "9.2", Code: "2.2", Percent: 60}},
		Conditions: []api.Condition{
			{Code: "2.10", Year: 12, Amount: 100, Kind: 2, Source: "9.1", Least: 5000}, {Code: "1", Year: 13, Amount: 10, Kind: 1, Day: lastDay}, {Code: "1", Year: 13, Amount: 10, Kind: 1, Day: lastDay}, {Code: "1", Year: 12, Kind: 1}, {Code: "2.2", Year: 12, Amount: mostAmount, Kind: 2, Source: "9.2"},
		},
		Rules: []api.Rule{{Number: 1, From: "1", To: "2", Percent: 10}, {Number: 2, From: "2", To: "2", Percent: 100}, {Number: 10, From: "2.1", To: "1"}, {Number: mostNumber, From: "9", To: "9.1.1", Percent: 1}},
		Amendments: []api.Amendment{
			{Day: 0, Number: 7, Changes: []api.Change{{Kind: 3, Code: "2.10", Year: 13, Amount: 6}}},
			{Day: 4400, Number: 1, Changes: []api.Change{
				{Kind: 1, Code: "1", Year: 12, Amount: 600}, {Kind: 1, Code: "2.1", Year: 12}, {Kind: 2, Code: "1", Year: -1, Amount: -1}, {Kind: 2, Code: "1", Year: 12, Amount: 700}, {Kind: 2, Code: "2", Year: 13, Amount: -1}, {Kind: 3, Code: "2", Year: -1, Amount: 5}, {Kind: 3, Code: "2", Year: 12},
			}},
			{Day: 4400, Number: 2, Changes: []api.Change{{Kind: 1, Code: "2.2", Year: 13, Amount: mostAmount}}},
			{Day: lastDay, Number: mostNumber, Changes: []api.Change{{Kind: 1, Code: "1", Year: 12}}},
		},
	}
}

// fullText is the text of the full law.
const fullText = `years 12 2
heading 1 schools
heading 2 roads and bridges
heading 2.1 new roads
heading 2.2 repairs
heading 2.10 bridges
heading 9 revenue
heading 9.1 taxes
heading 9.1.1 income tax
heading 9.2 fees
line 1 12 500
line 1 13 510
line 2.1 12 0
line 2.2 13 70
line 2.10 12 1000000000000
ceiling 1 all 2000
ceiling 1 12 600
ceiling 2 13 1000000000000
ceiling 2.2 all 90
ceiling 9 12 0
floor 2 all 20
floor 2 12 7
floor 2.10 12 1
earmark 9 2.1 40
earmark 9.1 1 30
earmark 9.1 2.1 20
earmark 9.1.1 2.10 10
earmark 9.2 2.2 60
reach 2.10 12 100 9.1 5000
wait 1 13 10 99-12-21
wait 1 13 10 99-12-21
wait 1 12 0 0-01-01
reach 2.2 12 1000000000000 9.2 0
rule 1 1 2 10
rule 2 2 2 100
rule 10 2.1 1 0
rule 1000000 9 9.1.1 1
amend 0-01-01 7 floor 2.10 13 6
amend 12-03-21 1 line 1 12 600
amend 12-03-21 1 line 2.1 12 0
amend 12-03-21 1 ceiling 1 all none
amend 12-03-21 1 ceiling 1 12 700
amend 12-03-21 1 ceiling 2 13 none
amend 12-03-21 1 floor 2 all 5
amend 12-03-21 1 floor 2 12 0
amend 12-03-21 2 line 2.2 13 1000000000000
amend 99-12-21 1000000 line 1 12 0
`

// clone copies a law with all its lists.
func clone(l api.Law) api.Law {
	l.Tree, l.Lines, l.Ceilings, l.Floors = slices.Clone(l.Tree), slices.Clone(l.Lines), slices.Clone(l.Ceilings), slices.Clone(l.Floors)
	l.Earmarks, l.Conditions, l.Rules, l.Amendments = slices.Clone(l.Earmarks), slices.Clone(l.Conditions), slices.Clone(l.Rules), slices.Clone(l.Amendments)
	for i := range l.Amendments {
		l.Amendments[i].Changes = slices.Clone(l.Amendments[i].Changes)
	}
	return l
}

// changed returns a copy of a law with a change.
func changed(l api.Law, change func(l *api.Law)) api.Law {
	l = clone(l)
	change(&l)
	return l
}

// equal compares two laws deeply, without telling nil from empty lists.
func equal(a, b api.Law) bool { return reflect.DeepEqual(plainLists(a), plainLists(b)) }

// plainLists makes nil of empty lists.
func plainLists(l api.Law) api.Law {
	l = clone(l)
	for v := range lists(&l) {
		if v.Len() == 0 {
			v.SetZero()
		}
	}
	return l
}

// lists goes through all lists of a law.
func lists(l *api.Law) func(yield func(reflect.Value) bool) {
	return func(yield func(reflect.Value) bool) {
		law := reflect.ValueOf(l).Elem()
		for i := range law.NumField() {
			if law.Field(i).Kind() == reflect.Slice && !yield(law.Field(i)) {
				return
			}
		}
		for i := range l.Amendments {
			if !yield(reflect.ValueOf(&l.Amendments[i].Changes).Elem()) {
				return
			}
		}
	}
}

// fields goes through all numbers and strings of a law.
func fields(l *api.Law) func(yield func(reflect.Value) bool) {
	return func(yield func(reflect.Value) bool) {
		walk(reflect.ValueOf(l).Elem(), yield)
	}
}

func walk(v reflect.Value, yield func(reflect.Value) bool) bool {
	switch v.Kind() {
	case reflect.Struct:
		for i := range v.NumField() {
			if !walk(v.Field(i), yield) {
				return false
			}
		}
		return true
	case reflect.Slice:
		for i := range v.Len() {
			if !walk(v.Index(i), yield) {
				return false
			}
		}
		return true
	}
	return yield(v)
}

// numbers are numbers at the ends of all ranges, and beyond them.
func numbers() []int {
	return []int{
		math.MinInt, -mostAmount, -360, -2, -1, 0, 1, 2, 3, 4, 5, 6, 7, 11, 12, 13, 14, 96, 97, 98, 99, 100, 101, 4399, 4400, 4401, mostNumber, mostNumber + 1,
		mostAmount - 1, mostAmount, mostAmount + 1, lastDay, lastDay + 1, 36000, 36001, 1 << 31, 1 << 32, math.MaxInt - 35990, math.MaxInt - 3, math.MaxInt,
	}
}

// words are codes of the full law, others, and texts that are none, or no names.
func words() []string {
	return []string{
		"", " ", "x", "1", "2", "2.1", "2.2", "2.3", "2.10", "2.1.1", "3", "9", "9.1", "9.1.1", "9.2", "9.1.1.1", "10", "0", "01", "1.", ".1", "1.1.1.1.1", "100", "all", "none", "schools", "a b", " a", "a ", "a\n", "\xff", "\u0661", strings.Repeat("a", 40), strings.Repeat("a", 41), strings.Repeat("1.", 500),
	}
}

var (
	codeForm = regexp.MustCompile(`\A[1-9][0-9]?(\.[1-9][0-9]?){0,3}\z`)
	nameForm = regexp.MustCompile(`\A[!-~]([ -~]{0,38}[!-~])?\z`)
)

// key writes codes and numbers so that their bytes have the order of what they write. Numbers below 0 are written too, for bounds of all years.
func key(parts ...any) string {
	var b strings.Builder
	for _, part := range parts {
		switch x := part.(type) {
		case int:
			fmt.Fprintf(&b, "%020d/", uint64(x)+1<<63)
		case string:
			for i, n := range strings.Split(x, ".") {
				if i > 0 {
					b.WriteString(".")
				}
				b.WriteString(strings.Repeat("0", max(0, 2-len(n))) + n)
			}
			b.WriteString(" ")
		}
	}
	return b.String()
}

// judge looks for the first error of a law, as the chapter lists them.
type judge struct {
	l api.Law
	e api.Errno
}

// found notes the first error.
func (j *judge) found(e api.Errno, applies bool) {
	if j.e == api.OK && applies {
		j.e = e
	}
}

func (j *judge) in(code string) bool {
	return slices.ContainsFunc(j.l.Tree, func(h api.Heading) bool { return h.Code == code })
}

func (j *judge) leaf(code string) bool {
	for _, h := range j.l.Tree {
		if strings.HasPrefix(h.Code, code+".") {
			return false
		}
	}
	return j.in(code)
}

func (j *judge) year(year int) bool {
	for i := range j.l.Years {
		if year == j.l.First+i {
			return true
		}
	}
	return false
}

func amount(n int) bool { return n >= 0 && n <= mostAmount }

func (j *judge) tree() {
	j.found(api.ErrLimit, len(j.l.Tree) > 60)
	last := ""
	for _, h := range j.l.Tree {
		j.found(api.ErrCode, !codeForm.MatchString(h.Code))
		j.found(api.ErrSyntax, !nameForm.MatchString(h.Name))
		j.found(api.ErrOrder, last >= key(h.Code))
		dot := strings.LastIndex(h.Code, ".")
		j.found(api.ErrUnknown, dot > 0 && !j.in(h.Code[:dot]))
		last = key(h.Code)
	}
}

func (j *judge) limits() {
	l := j.l
	most := 0
	for _, a := range l.Amendments {
		most = max(most, len(a.Changes))
	}
	j.found(api.ErrLimit, len(l.Lines) > 120 || len(l.Ceilings) > 60 || len(l.Floors) > 60 || len(l.Earmarks) > 20 || len(l.Conditions) > 20 || len(l.Rules) > 20 || len(l.Amendments) > 20 || most > 20)
}

func (j *judge) entries() {
	l, last := j.l, ""
	for _, x := range l.Lines {
		j.found(api.ErrCode, !j.leaf(x.Code))
		j.found(api.ErrYear, !j.year(x.Year))
		j.found(api.ErrRange, !amount(x.Amount))
		j.found(api.ErrOrder, last >= key(x.Code, x.Year))
		last = key(x.Code, x.Year)
	}
	for _, bounds := range [][]api.Bound{l.Ceilings, l.Floors} {
		last = ""
		for _, x := range bounds {
			j.found(api.ErrCode, !j.in(x.Code))
			j.found(api.ErrYear, !j.year(x.Year) && x.Year != -1)
			j.found(api.ErrRange, !amount(x.Amount))
			j.found(api.ErrOrder, last >= key(x.Code, x.Year))
			last = key(x.Code, x.Year)
		}
	}
	last = ""
	for _, x := range l.Earmarks {
		j.found(api.ErrCode, !j.in(x.Source) || !j.leaf(x.Code))
		j.found(api.ErrRange, x.Percent < 0 || x.Percent > 100)
		j.found(api.ErrOrder, last >= key(x.Source, x.Code))
		last = key(x.Source, x.Code)
	}
	for _, h := range l.Tree {
		sum := 0
		for _, x := range l.Earmarks {
			if strings.HasPrefix(h.Code+".", x.Source+".") {
				sum += x.Percent
			}
		}
		j.found(api.ErrShare, j.leaf(h.Code) && sum > 100)
	}
}

func (j *judge) facts() {
	for _, x := range j.l.Conditions {
		j.found(api.ErrInvalid, x.Kind != 1 && x.Kind != 2 || x.Kind == 1 && (x.Source != "" || x.Least != 0) || x.Kind == 2 && x.Day != 0)
		j.found(api.ErrCode, !j.leaf(x.Code) || x.Kind == 2 && !j.in(x.Source))
		j.found(api.ErrYear, !j.year(x.Year))
		j.found(api.ErrRange, !amount(x.Amount) || !amount(x.Least) || x.Day < 0 || x.Day > lastDay)
	}
	before := 0
	for _, x := range j.l.Rules {
		j.found(api.ErrRange, x.Number < 1 || x.Number > mostNumber || x.Percent < 0 || x.Percent > 100)
		j.found(api.ErrCode, !j.in(x.From) || !j.in(x.To))
		j.found(api.ErrOrder, x.Number <= before)
		before = x.Number
	}
	last := ""
	for _, a := range j.l.Amendments {
		j.found(api.ErrRange, a.Day < 0 || a.Day > lastDay || a.Number < 1 || a.Number > mostNumber)
		j.found(api.ErrOrder, last >= key(a.Day, a.Number))
		j.found(api.ErrInvalid, len(a.Changes) == 0)
		last = key(a.Day, a.Number)
		behind := ""
		for _, x := range a.Changes {
			j.found(api.ErrInvalid, x.Kind < 1 || x.Kind > 3)
			j.found(api.ErrCode, !j.in(x.Code) || x.Kind == 1 && !j.leaf(x.Code))
			j.found(api.ErrYear, !j.year(x.Year) && (x.Year != -1 || x.Kind == 1))
			j.found(api.ErrRange, !amount(x.Amount) && (x.Amount != -1 || x.Kind != 2))
			j.found(api.ErrOrder, behind >= key(x.Kind, x.Code, x.Year))
			behind = key(x.Kind, x.Code, x.Year)
		}
	}
}

// faultOf returns the first error of a law by the reference.
func faultOf(l api.Law) api.Errno {
	j := &judge{l: l}
	j.found(api.ErrRange, l.First < 0 || l.First > 99 || l.Years < 1 || l.Years > 4)
	j.found(api.ErrRange, l.First+l.Years > 100)
	if j.e == api.OK {
		j.tree()
		j.limits()
	}
	if j.e == api.OK {
		j.entries()
		j.facts()
	}
	return j.e
}

// checkFault compares Valid with the reference.
func checkFault(t *testing.T, l api.Law) api.Errno {
	t.Helper()
	want := faultOf(l)
	if got := Valid(l); got != want {
		t.Errorf("Valid of %.4000s: %d, not %d", fmt.Sprintf("%+v", l), got, want)
	}
	return want
}

// chance makes valid laws.
type chance struct{ *rand.Rand }

// pick returns up to n different keys, in order, with what has them.
func pick[T any](c chance, n int, one func() (string, T)) []T {
	all := map[string]T{}
	for range c.Intn(n + 1) {
		k, x := one()
		all[k] = x
	}
	var keys []string
	for k := range all {
		keys = append(keys, k)
	}
	sort.Strings(keys)
	var l []T
	for _, k := range keys {
		l = append(l, all[k])
	}
	return l
}

func (c chance) amount() int {
	return []int{0, 1, c.Intn(1000), c.Intn(mostAmount + 1), mostAmount}[c.Intn(5)]
}

func (c chance) tree(size int) []api.Heading {
	codes := []string{""}
	l := pick(c, size, func() (string, api.Heading) {
		code := codes[c.Intn(len(codes))]
		if strings.Count(code, ".") == 3 {
			code = ""
		}
		code = strings.TrimPrefix(fmt.Sprintf("%s.%d", code, []int{1, 2, 3, 9, 10, 11, 99}[c.Intn(7)]), ".")
		codes = append(codes, code)
		return key(code), api.Heading{Code: code, Name: []string{"a", "a b", "#", "~", strings.Repeat("x", 40), code}[c.Intn(6)]}
	})
	return l
}

// law returns a valid law with lists of up to some size.
func (c chance) law(size int) api.Law {
	l := api.Law{Years: 1 + c.Intn(4), Tree: c.tree(size)}
	l.First = c.Intn(101 - l.Years)
	j := &judge{l: l}
	var leaves []string
	for _, h := range l.Tree {
		if j.leaf(h.Code) {
			leaves = append(leaves, h.Code)
		}
	}
	if len(leaves) == 0 {
		return l
	}
	leaf := func() string { return leaves[c.Intn(len(leaves))] }
	code := func() string { return l.Tree[c.Intn(len(l.Tree))].Code }
	year := func() int { return l.First + c.Intn(l.Years) }
	span := func() int { return []int{-1, year()}[c.Intn(2)] }
	bound := func() (string, api.Bound) {
		x := api.Bound{Code: code(), Year: span(), Amount: c.amount()}
		return key(x.Code, x.Year), x
	}
	l.Lines = pick(c, min(size, 120), func() (string, api.Line) {
		x := api.Line{Code: leaf(), Year: year(), Amount: c.amount()}
		return key(x.Code, x.Year), x
	})
	l.Ceilings, l.Floors = pick(c, min(size, 60), bound), pick(c, min(size, 60), bound)
	l.Earmarks = pick(c, min(size, 20), func() (string, api.Earmark) {
		x := api.Earmark{Source: code(), Code: leaf(), Percent: c.Intn(6)}
		return key(x.Source, x.Code), x
	})
	l.Conditions = pick(c, min(size, 20), func() (string, api.Condition) {
		if c.Intn(2) == 0 {
			return key(c.Int()), api.Condition{Kind: 1, Code: leaf(), Year: year(), Amount: c.amount(), Day: c.Intn(lastDay + 1)}
		}
		return key(c.Int()), api.Condition{Kind: 2, Code: leaf(), Year: year(), Amount: c.amount(), Source: code(), Least: c.amount()}
	})
	l.Rules = pick(c, min(size, 20), func() (string, api.Rule) {
		x := api.Rule{Number: 1 + c.Intn(30), From: code(), To: code(), Percent: c.Intn(101)}
		return key(x.Number), x
	})
	l.Amendments = c.amendments(min(size, 20), leaf, code, year, span)
	return l
}

func (c chance) amendments(size int, leaf, code func() string, year, span func() int) []api.Amendment {
	change := func() (string, api.Change) {
		x := api.Change{Kind: 1 + c.Intn(3), Code: code(), Year: span(), Amount: c.amount()}
		if x.Kind == 1 {
			x.Code, x.Year = leaf(), year()
		}
		if x.Kind == 2 && c.Intn(3) == 0 {
			x.Amount = -1
		}
		return key(x.Kind, x.Code, x.Year), x
	}
	l := pick(c, size, func() (string, api.Amendment) {
		a := api.Amendment{Day: []int{0, 5, 30, c.Intn(lastDay + 1), lastDay}[c.Intn(5)], Number: 1 + c.Intn(12), Changes: pick(c, size, change)}
		return key(a.Day, a.Number), a
	})
	return slices.DeleteFunc(l, func(a api.Amendment) bool { return len(a.Changes) == 0 })
}

// disturb changes something of a law: a number or a string, or an entry of a list that is doubled, taken away or exchanged.
func (c chance) disturb(l *api.Law) {
	if c.Intn(3) == 0 {
		var all []reflect.Value
		for v := range lists(l) {
			if v.Len() > 0 {
				all = append(all, v)
			}
		}
		if len(all) > 0 {
			c.disturbList(all[c.Intn(len(all))])
		}
		return
	}
	var all []reflect.Value
	for v := range fields(l) {
		all = append(all, v)
	}
	v := all[c.Intn(len(all))]
	if v.Kind() == reflect.String {
		v.SetString(words()[c.Intn(len(words()))])
		return
	}
	v.SetInt(int64(numbers()[c.Intn(len(numbers()))]))
}

func (c chance) disturbList(v reflect.Value) {
	i, k := c.Intn(v.Len()), c.Intn(v.Len())
	switch c.Intn(3) {
	case 0:
		v.Set(reflect.AppendSlice(v.Slice3(0, i, i), v.Slice(i+1, v.Len())))
	case 1:
		x := reflect.AppendSlice(v.Slice3(0, i, i), v.Slice(k, k+1))
		v.Set(reflect.AppendSlice(x, v.Slice(i, v.Len())))
	case 2:
		reflect.Swapper(v.Interface())(i, k)
	}
}
