package amendment

import (
	"fmt"
	"math"
	"math/rand"
	"reflect"
	"slices"
	"strings"
	"testing"

	"treasury/api"
	"treasury/article"
	"treasury/budget"
)

// The limits are written out here as the document has them, so that a wrong one shows.
const (
	mostAmount = 1000000000000
	mostNumber = 1000000
	lastDay    = 35990
)

// base is a law without lines, bounds and amendments.
const base = `years 12 2
heading 1 schools
heading 2 roads
heading 2.1 new roads
heading 2.9 repairs
heading 2.10 bridges
heading 9 revenue
`

// lawOf returns the base with more articles, separated by semicolons.
func lawOf(t *testing.T, articles string) api.Law {
	t.Helper()
	l, n, e := budget.Parse(base + strings.ReplaceAll(articles, "; ", "\n"))
	if e != api.OK {
		t.Fatalf("%q is no law: line %d, error %d", articles, n, e)
	}
	return l
}

// articlesOf writes what a law has more than the base.
func articlesOf(l api.Law) string {
	text := strings.TrimPrefix(budget.Text(l), base)
	return strings.ReplaceAll(strings.TrimSuffix(text, "\n"), "\n", "; ")
}

// changesOf returns changes that are written as articles of an amendment, without its day and number.
func changesOf(t *testing.T, text string) []api.Change {
	t.Helper()
	var l []api.Change
	for x := range strings.SplitSeq(text, "; ") {
		if x == "" {
			continue
		}
		a, e := article.Parse("amend 0-01-01 1 " + x)
		if e != api.OK {
			t.Fatalf("%q is no change", x)
		}
		l = append(l, api.Change{Kind: a.What, Code: a.Code, Year: a.Year, Amount: a.Amount})
	}
	return l
}

// textOf writes changes as changesOf reads them.
func textOf(l []api.Change) string {
	var words []string
	for _, x := range l {
		text := article.Text(api.Article{Kind: api.ArticleAmendment, Number: 1, What: x.Kind, Code: x.Code, Year: x.Year, Amount: x.Amount})
		words = append(words, strings.TrimPrefix(text, "amend 0-01-01 1 "))
	}
	return strings.Join(words, "; ")
}

// full is the base with some of everything.
func full(t *testing.T) api.Law {
	return lawOf(t, "line 1 12 500; line 1 13 510; line 2.1 12 0; line 2.10 13 70; ceiling 1 all 2000; ceiling 2 12 90; ceiling 2.9 13 0; floor 2 all 20; floor 2.10 13 5; floor 9 12 0; "+
		"earmark 9 1 30; earmark 9 2.1 20; reach 2.10 12 100 9 5000; wait 1 13 10 12-06-01; wait 1 12 10 12-05-01; rule 1 1 2 10; rule 7 2 2 100; "+
		"amend 12-01-11 1 line 1 12 600; amend 12-01-11 1 line 2.9 12 8; amend 12-01-11 1 ceiling 2 12 none; amend 12-01-11 2 line 1 12 650; amend 12-01-11 2 floor 9 13 4; amend 12-03-21 1 line 1 12 0; amend 12-03-21 1 floor 2 all 0; amend 99-12-21 1000000 line 1 13 1")
}

// wide is a law with as many lines, ceilings and floors as there may be: of the codes 1 to 30, 1 to 12 and 1 to 12.
func wide() api.Law {
	l := api.Law{First: 50, Years: 4}
	for i := 1; i <= 60; i++ {
		l.Tree = append(l.Tree, api.Heading{Code: fmt.Sprint(i), Name: "n"})
	}
	for i := range 120 {
		l.Lines = append(l.Lines, api.Line{Code: fmt.Sprint(1 + i/4), Year: 50 + i%4, Amount: i})
	}
	for i := range 60 {
		x := api.Bound{Code: fmt.Sprint(1 + i/5), Year: 49 + i%5, Amount: i}
		if i%5 == 0 {
			x.Year = -1
		}
		l.Ceilings, l.Floors = append(l.Ceilings, x), append(l.Floors, x)
	}
	return l
}

// copied copies a law by its value, deeply.
func copied[T any](x T) T {
	return copiedValue(reflect.ValueOf(x)).Interface().(T)
}

func copiedValue(v reflect.Value) reflect.Value {
	c := reflect.New(v.Type()).Elem()
	c.Set(v)
	switch v.Kind() {
	case reflect.Struct:
		for i := range v.NumField() {
			c.Field(i).Set(copiedValue(v.Field(i)))
		}
	case reflect.Slice:
		if v.IsNil() {
			break
		}
		c.Set(reflect.MakeSlice(v.Type(), v.Len(), v.Len()))
		for i := range v.Len() {
			c.Index(i).Set(copiedValue(v.Index(i)))
		}
	}
	return c
}

// same compares laws, and fails with their texts.
func same(t *testing.T, name string, got, want api.Law) {
	t.Helper()
	if !budget.Same(got, want) {
		t.Errorf("%s: %s, not %s", name, articlesOf(got), articlesOf(want))
	}
}

// refused fails if a result is not a law's zero value with an error.
func refused(t *testing.T, name string, l api.Law, e, want api.Errno) {
	t.Helper()
	if e != want {
		t.Errorf("%s: error %d, not %d", name, e, want)
	}
	if want != api.OK && !budget.Same(l, api.Law{}) {
		t.Errorf("%s: a law with error %d", name, e)
	}
}

// apart fails if two lists of some values share memory.
func apart(t *testing.T, name string, values ...any) {
	t.Helper()
	type span struct{ from, to uintptr }
	var spans []span
	var look func(v reflect.Value)
	look = func(v reflect.Value) {
		switch v.Kind() {
		case reflect.Struct:
			for i := range v.NumField() {
				look(v.Field(i))
			}
		case reflect.Slice:
			if v.Cap() > 0 {
				spans = append(spans, span{v.Pointer(), v.Pointer() + uintptr(v.Cap())*v.Type().Elem().Size()})
			}
			for i := range v.Len() {
				look(v.Index(i))
			}
		}
	}
	for _, v := range values {
		look(reflect.ValueOf(v))
	}
	slices.SortFunc(spans, func(a, b span) int { return int(a.from) - int(b.from) })
	for i := 1; i < len(spans); i++ {
		if spans[i].from < spans[i-1].to {
			t.Errorf("%s: lists share memory", name)
		}
	}
}

// spot is what a change sets, by the reference.
type spot struct {
	kind int
	code string
	year int
}

// amounts returns the amounts of a law's lines and bounds.
func amounts(l api.Law) map[spot]int {
	m := map[spot]int{}
	for _, x := range l.Lines {
		m[spot{1, x.Code, x.Year}] = x.Amount
	}
	for _, x := range l.Ceilings {
		m[spot{2, x.Code, x.Year}] = x.Amount
	}
	for _, x := range l.Floors {
		m[spot{3, x.Code, x.Year}] = x.Amount
	}
	return m
}

// withAmounts returns a law with other lines and bounds. It leaves their order to budget.Of.
func withAmounts(l api.Law, m map[spot]int) (api.Law, api.Errno) {
	articles := slices.DeleteFunc(budget.Articles(l), func(a api.Article) bool {
		return a.Kind == api.ArticleLine || a.Kind == api.ArticleCeiling || a.Kind == api.ArticleFloor
	})
	for p, n := range m {
		articles = append(articles, api.Article{Kind: []int{0, api.ArticleLine, api.ArticleCeiling, api.ArticleFloor}[p.kind], Code: p.code, Year: p.year, Amount: n})
	}
	return budget.Of(articles)
}

// gone reports whether a change takes something away.
func gone(kind, amount int) bool { return kind == 2 && amount == -1 || kind != 2 && amount == 0 }

// faultOf returns the first error of changes in a law.
func faultOf(l api.Law, changes []api.Change) api.Errno {
	for _, x := range changes {
		in, leaf := false, true
		for _, h := range l.Tree {
			in = in || h.Code == x.Code
			leaf = leaf && !strings.HasPrefix(h.Code, x.Code+".")
		}
		switch {
		case x.Kind != 1 && x.Kind != 2 && x.Kind != 3:
			return api.ErrInvalid
		case !in || x.Kind == 1 && !leaf:
			return api.ErrCode
		case (x.Year < l.First || x.Year > l.First+l.Years-1) && (x.Year != -1 || x.Kind == 1):
			return api.ErrYear
		case (x.Amount < 0 || x.Amount > mostAmount) && (x.Amount != -1 || x.Kind != 2):
			return api.ErrRange
		}
	}
	return api.OK
}

// applied is Apply by the reference.
func applied(l api.Law, changes []api.Change) (api.Law, api.Errno) {
	if e := budget.Valid(l); e != api.OK {
		return api.Law{}, e
	}
	if e := faultOf(l, changes); e != api.OK {
		return api.Law{}, e
	}
	m := amounts(l)
	for _, x := range changes {
		m[spot{x.Kind, x.Code, x.Year}] = x.Amount
		if gone(x.Kind, x.Amount) {
			delete(m, spot{x.Kind, x.Code, x.Year})
		}
	}
	return withAmounts(l, m)
}

// forced is InForce by the reference.
func forced(l api.Law, day int) (api.Law, api.Errno) {
	var changes []api.Change
	var later []api.Amendment
	for _, x := range l.Amendments {
		if x.Day > day {
			later = append(later, x)
			continue
		}
		changes = append(changes, x.Changes...)
	}
	l, e := applied(l, changes)
	if e == api.OK {
		l.Amendments = later
	}
	return l, e
}

// chance makes laws and changes.
type chance struct{ *rand.Rand }

func (c chance) amount() int {
	return []int{0, 1, 500, c.Intn(mostAmount + 1), mostAmount}[c.Intn(5)]
}

// change returns a valid change in the law of the base.
func (c chance) change() api.Change {
	codes := []string{"1", "2.1", "2.9", "2.10", "9", "2"}
	x := api.Change{Kind: 1 + c.Intn(3), Code: codes[c.Intn(5)], Year: 12 + c.Intn(2), Amount: c.amount()}
	if x.Kind != 1 && c.Intn(2) == 0 {
		x.Code, x.Year = codes[c.Intn(6)], -1
	}
	if x.Kind == 2 && c.Intn(3) == 0 {
		x.Amount = -1
	}
	return x
}

func (c chance) changes(most int) []api.Change {
	var l []api.Change
	for range c.Intn(most + 1) {
		l = append(l, c.change())
	}
	return l
}

// ordinary returns a valid law with the years and codes of the base, and amendments that are made of articles.
func (c chance) ordinary() api.Law {
	l, _, _ := budget.Parse(base)
	l.Rules = []api.Rule{{Number: 1 + c.Intn(9), From: "1", To: "2", Percent: 10}}
	m := map[spot]int{}
	for _, x := range c.changes(30) {
		m[spot{x.Kind, x.Code, x.Year}] = max(x.Amount, 0)
	}
	l, e := withAmounts(l, m)
	if e != api.OK {
		panic("no law")
	}
	articles := budget.Articles(l)
	done := map[string]bool{}
	for range c.Intn(25) {
		x := c.change()
		a := api.Article{Kind: api.ArticleAmendment, Day: []int{0, 1, 4330, c.Intn(lastDay + 1), lastDay}[c.Intn(5)], Number: 1 + c.Intn(3), What: x.Kind, Code: x.Code, Year: x.Year, Amount: x.Amount}
		k := fmt.Sprint(a.Day, a.Number, a.What, a.Code, a.Year)
		if !done[k] {
			articles = append(articles, a)
		}
		done[k] = true
	}
	l, e = budget.Of(articles)
	if e == api.ErrLimit {
		return c.ordinary()
	}
	if e != api.OK {
		panic("no law with amendments")
	}
	return l
}

// days returns days before, at and behind those of a law's amendments.
func days(l api.Law) []int {
	all := []int{0, 4330, 36000}
	for _, x := range l.Amendments {
		all = append(all, x.Day, x.Day+1, max(x.Day-1, 0))
	}
	slices.Sort(all)
	return slices.Compact(all)
}

// odd returns any change, most likely one that is not valid.
func (c chance) odd() api.Change {
	n := []int{math.MinInt, -2, -1, 0, 1, 2, 3, 4, 11, 12, 13, 14, mostAmount, mostAmount + 1, math.MaxInt}
	codes := []string{"", "1", "2", "2.1", "2.10", "2.10.1", "3", "9", "01", "1.", "x", "\xff", "2.010", strings.Repeat("1.", 500)}
	x := c.change()
	for range c.Intn(3) {
		switch c.Intn(4) {
		case 0:
			x.Kind = n[c.Intn(len(n))]
		case 1:
			x.Code = codes[c.Intn(len(codes))]
		case 2:
			x.Year = n[c.Intn(len(n))]
		case 3:
			x.Amount = n[c.Intn(len(n))]
		}
	}
	return x
}

// broken returns a law of which something is not as it was, often not valid.
func (c chance) broken(l api.Law) api.Law {
	l = copied(l)
	switch c.Intn(8) {
	case 0:
		l.First = []int{math.MinInt, -1, 11, 13, 99, math.MaxInt}[c.Intn(6)]
	case 1:
		l.Years = []int{math.MinInt, 0, 1, 5, math.MaxInt}[c.Intn(5)]
	case 2:
		l.Tree = l.Tree[c.Intn(len(l.Tree)+1):]
	case 3:
		slices.Reverse(l.Lines)
	case 4:
		l.Ceilings = append(l.Ceilings, api.Bound{Code: "x", Year: -3, Amount: -1})
	case 5:
		l.Amendments = append(l.Amendments, api.Amendment{Day: c.Int(), Number: 1, Changes: []api.Change{c.odd()}})
	case 6:
		l.Floors = make([]api.Bound, 61)
	case 7:
		l.Rules[0].Number = -c.Intn(2)
	}
	return l
}
