package article

import (
	"fmt"
	"math"
	"math/rand"
	"regexp"
	"slices"
	"strconv"
	"strings"
	"testing"

	"treasury/api"
)

// The limits are written out here as the document has them, so that a wrong one shows.
const (
	mostAmount = 1000000000000
	mostNumber = 1000000
	mostYears  = 4
	lastDay    = 35990
)

// What the document calls a code, a name of a heading, and what Number reads.
var (
	codeForm   = regexp.MustCompile(`\A[1-9][0-9]?(\.[1-9][0-9]?){0,3}\z`)
	nameForm   = regexp.MustCompile(`\A[!-~]([ -~]{0,38}[!-~])?\z`)
	numberForm = regexp.MustCompile(`\A(0|[1-9][0-9]{0,14})\z`)
)

// isPlain looks at the fields of an article, one after the other, and at what is left when they are made zero.
func isPlain(a api.Article) bool {
	fits := true
	check := func(ok bool) { fits = fits && ok }
	number := func(n *int, least, most int) { check(*n >= least && *n <= most); *n = 0 }
	text := func(s *string, form *regexp.Regexp) { check(form.MatchString(*s)); *s = "" }
	kind := a.Kind
	a.Kind = 0
	switch kind {
	case 1:
		number(&a.Year, 0, 99)
		number(&a.Number, 1, mostYears)
	case 2:
		text(&a.Code, codeForm)
		text(&a.Name, nameForm)
	case 3, 7, 8:
		text(&a.Code, codeForm)
		number(&a.Year, 0, 99)
		number(&a.Amount, 0, mostAmount)
		if kind == 7 {
			number(&a.Day, 0, lastDay)
		}
		if kind == 8 {
			text(&a.Other, codeForm)
			number(&a.Least, 0, mostAmount)
		}
	case 4, 5:
		text(&a.Code, codeForm)
		number(&a.Year, -1, 99)
		number(&a.Amount, 0, mostAmount)
	case 6, 9:
		text(&a.Code, codeForm)
		text(&a.Other, codeForm)
		number(&a.Percent, 0, 100)
		if kind == 9 {
			number(&a.Number, 1, mostNumber)
		}
	case 10:
		number(&a.Day, 0, lastDay)
		number(&a.Number, 1, mostNumber)
		text(&a.Code, codeForm)
		leastYear, leastAmount := -1, 0
		if a.What == 1 {
			leastYear = 0
		}
		if a.What == 2 {
			leastAmount = -1
		}
		number(&a.Year, leastYear, 99)
		number(&a.Amount, leastAmount, mostAmount)
		number(&a.What, 1, 3)
	default:
		return false
	}
	return fits && a == api.Article{}
}

// textOf is the text of a plain article.
func textOf(a api.Article) string {
	span, amount := fmt.Sprint(a.Year), fmt.Sprint(a.Amount)
	if a.Year == -1 {
		span = "all"
	}
	if a.Amount == -1 {
		amount = "none"
	}
	day := fmt.Sprintf("%d-%02d-%02d", a.Day/360, a.Day/30%12+1, a.Day%30+1)
	switch a.Kind {
	case 1:
		return fmt.Sprintf("years %d %d", a.Year, a.Number)
	case 2:
		return fmt.Sprintf("heading %s %s", a.Code, a.Name)
	case 3:
		return fmt.Sprintf("line %s %d %d", a.Code, a.Year, a.Amount)
	case 4:
		return fmt.Sprintf("ceiling %s %s %d", a.Code, span, a.Amount)
	case 5:
		return fmt.Sprintf("floor %s %s %d", a.Code, span, a.Amount)
	case 6:
		return fmt.Sprintf("earmark %s %s %d", a.Other, a.Code, a.Percent)
	case 7:
		return fmt.Sprintf("wait %s %d %d %s", a.Code, a.Year, a.Amount, day)
	case 8:
		return fmt.Sprintf("reach %s %d %d %s %d", a.Code, a.Year, a.Amount, a.Other, a.Least)
	case 9:
		return fmt.Sprintf("rule %d %s %s %d", a.Number, a.Code, a.Other, a.Percent)
	}
	change := map[int]string{1: "line", 2: "ceiling", 3: "floor"}[a.What]
	return fmt.Sprintf("amend %s %d %s %s %s %s", day, a.Number, change, a.Code, span, amount)
}

// lineForms are the forms as regular expressions, with a name for each field.
func lineForms() map[int]*regexp.Regexp {
	replace := strings.NewReplacer(
		"CODE", `(?P<Code>\S+)`, "OTHER", `(?P<Other>\S+)`, "NAME", `(?P<Name>(?s:.*))`, "YEAR", `(?P<Year>\d+)`, "SPAN", `(?P<Year>\d+|all)`,
		"AMOUNT", `(?P<Amount>\d+|none)`, "LEAST", `(?P<Least>\d+)`, "PERCENT", `(?P<Percent>\d+)`, "NUMBER", `(?P<Number>\d+)`,
		"DAY", `(?P<Y>\d+)-(?P<M>\d\d)-(?P<D>\d\d)`, "CHANGE", `(?P<What>line|ceiling|floor)`)
	all := map[int]*regexp.Regexp{}
	for i, form := range []string{
		"years YEAR NUMBER", "heading CODE NAME", "line CODE YEAR AMOUNT", "ceiling CODE SPAN AMOUNT", "floor CODE SPAN AMOUNT", "earmark OTHER CODE PERCENT",
		"wait CODE YEAR AMOUNT DAY", "reach CODE YEAR AMOUNT OTHER LEAST", "rule NUMBER CODE OTHER PERCENT", "amend DAY NUMBER CHANGE CODE SPAN AMOUNT",
	} {
		all[i+1] = regexp.MustCompile(`\A` + replace.Replace(form) + `\z`)
	}
	return all
}

// readBy reads a text by the regular expressions; the text is wrong if the article is not plain, or has another text.
func readBy(all map[int]*regexp.Regexp, text string) (api.Article, api.Errno) {
	for kind, form := range all {
		words := form.FindStringSubmatch(text)
		if words == nil {
			continue
		}
		get := func(name string) string {
			if i := form.SubexpIndex(name); i >= 0 {
				return words[i]
			}
			return ""
		}
		number := func(name string) int {
			word := get(name)
			if word == "all" || word == "none" {
				return -1
			}
			n, _ := strconv.Atoi(word)
			return n
		}
		a := api.Article{
			Kind: kind, Code: get("Code"), Other: get("Other"), Name: get("Name"), Year: number("Year"), Amount: number("Amount"),
			Percent: number("Percent"), Number: number("Number"), Least: number("Least"), What: slices.Index([]string{"", "line", "ceiling", "floor"}, get("What")),
		}
		if get("D") != "" {
			if m, d := number("M"), number("D"); m < 1 || m > 12 || d < 1 || d > 30 {
				return api.Article{}, api.ErrSyntax
			}
			a.Day = 360*number("Y") + 30*(number("M")-1) + number("D") - 1
		}
		if isPlain(a) && textOf(a) == text {
			return a, api.OK
		}
	}
	return api.Article{}, api.ErrSyntax
}

// written are articles with their texts: of each form ordinary ones, and those at the ends of all ranges.
func written() map[string]api.Article {
	long := strings.Repeat("~", 40)
	return map[string]api.Article{
		"years 12 1":                                        {Kind: api.ArticleYears, Year: 12, Number: 1},
		"years 0 4":                                         {Kind: api.ArticleYears, Number: 4},
		"years 99 4":                                        {Kind: api.ArticleYears, Year: 99, Number: 4}, // the law that it makes is not valid, the article is plain
		"heading 1 schools":                                 {Kind: api.ArticleHeading, Code: "1", Name: "schools"},
		"heading 99.99.99.99 x":                             {Kind: api.ArticleHeading, Code: "99.99.99.99", Name: "x"},
		"heading 3.9 new  roads!":                           {Kind: api.ArticleHeading, Code: "3.9", Name: "new  roads!"},
		"heading 3 4 5":                                     {Kind: api.ArticleHeading, Code: "3", Name: "4 5"},
		"heading 7 " + long:                                 {Kind: api.ArticleHeading, Code: "7", Name: long},
		"line 3.9 12 5000":                                  {Kind: api.ArticleLine, Code: "3.9", Year: 12, Amount: 5000}, // the example
		"line 1 0 0":                                        {Kind: api.ArticleLine, Code: "1"},
		"line 1 99 1000000000000":                           {Kind: api.ArticleLine, Code: "1", Year: 99, Amount: mostAmount},
		"ceiling 3 12 700":                                  {Kind: api.ArticleCeiling, Code: "3", Year: 12, Amount: 700},
		"ceiling 3 all 700":                                 {Kind: api.ArticleCeiling, Code: "3", Year: -1, Amount: 700},
		"ceiling 3 0 0":                                     {Kind: api.ArticleCeiling, Code: "3"},
		"ceiling 3.1.2 99 1000000000000":                    {Kind: api.ArticleCeiling, Code: "3.1.2", Year: 99, Amount: mostAmount},
		"floor 3 12 700":                                    {Kind: api.ArticleFloor, Code: "3", Year: 12, Amount: 700},
		"floor 3 all 0":                                     {Kind: api.ArticleFloor, Code: "3", Year: -1},
		"floor 3.10 99 1000000000000":                       {Kind: api.ArticleFloor, Code: "3.10", Year: 99, Amount: mostAmount},
		"earmark 8 3.9 25":                                  {Kind: api.ArticleEarmark, Other: "8", Code: "3.9", Percent: 25}, // the source stands first
		"earmark 8 8 0":                                     {Kind: api.ArticleEarmark, Other: "8", Code: "8"},
		"earmark 8.1 3 100":                                 {Kind: api.ArticleEarmark, Other: "8.1", Code: "3", Percent: 100},
		"wait 3.9 12 100 12-07-01":                          {Kind: api.ArticleWait, Code: "3.9", Year: 12, Amount: 100, Day: 4500},
		"wait 1 0 0 0-01-01":                                {Kind: api.ArticleWait, Code: "1"},
		"wait 1 99 1000000000000 99-12-21":                  {Kind: api.ArticleWait, Code: "1", Year: 99, Amount: mostAmount, Day: lastDay},
		"reach 3.9 12 100 8 4000":                           {Kind: api.ArticleReach, Code: "3.9", Year: 12, Amount: 100, Other: "8", Least: 4000},
		"reach 1 0 0 2 0":                                   {Kind: api.ArticleReach, Code: "1", Other: "2"},
		"reach 1 99 0 2.3 1000000000000":                    {Kind: api.ArticleReach, Code: "1", Year: 99, Other: "2.3", Least: mostAmount},
		"reach 1 0 1000000000000 1 1":                       {Kind: api.ArticleReach, Code: "1", Amount: mostAmount, Other: "1", Least: 1},
		"rule 4 3.9 5 30":                                   {Kind: api.ArticleRule, Number: 4, Code: "3.9", Other: "5", Percent: 30}, // from, and then to
		"rule 1 1 1 0":                                      {Kind: api.ArticleRule, Number: 1, Code: "1", Other: "1"},
		"rule 1000000 1 2 100":                              {Kind: api.ArticleRule, Number: mostNumber, Code: "1", Other: "2", Percent: 100},
		"amend 13-02-01 2 ceiling 3 all none":               {Kind: api.ArticleAmendment, Day: 4710, Number: 2, What: api.ChangeCeiling, Code: "3", Year: -1, Amount: -1}, // the example
		"amend 13-02-01 2 ceiling 3 13 none":                {Kind: api.ArticleAmendment, Day: 4710, Number: 2, What: api.ChangeCeiling, Code: "3", Year: 13, Amount: -1},
		"amend 0-01-01 1 ceiling 3 all 0":                   {Kind: api.ArticleAmendment, Number: 1, What: api.ChangeCeiling, Code: "3", Year: -1},
		"amend 99-12-21 1000000 ceiling 3 99 1000000000000": {Kind: api.ArticleAmendment, Day: lastDay, Number: mostNumber, What: api.ChangeCeiling, Code: "3", Year: 99, Amount: mostAmount},
		"amend 12-01-30 7 line 3.9 12 80":                   {Kind: api.ArticleAmendment, Day: 4349, Number: 7, What: api.ChangeLine, Code: "3.9", Year: 12, Amount: 80},
		"amend 0-01-01 1 line 1 0 0":                        {Kind: api.ArticleAmendment, Number: 1, What: api.ChangeLine, Code: "1"},
		"amend 99-12-21 1000000 line 1 99 1000000000000":    {Kind: api.ArticleAmendment, Day: lastDay, Number: mostNumber, What: api.ChangeLine, Code: "1", Year: 99, Amount: mostAmount},
		"amend 12-01-30 7 floor 3 12 80":                    {Kind: api.ArticleAmendment, Day: 4349, Number: 7, What: api.ChangeFloor, Code: "3", Year: 12, Amount: 80},
		"amend 12-01-30 7 floor 3 all 0":                    {Kind: api.ArticleAmendment, Day: 4349, Number: 7, What: api.ChangeFloor, Code: "3", Year: -1},
		"amend 99-12-21 1000000 floor 1 99 1000000000000":   {Kind: api.ArticleAmendment, Day: lastDay, Number: mostNumber, What: api.ChangeFloor, Code: "1", Year: 99, Amount: mostAmount},
	}
}

// numbers are at the ends of all ranges of the package, beyond them, and at the ends of int.
func numbers() []int {
	l := []int{math.MinInt, math.MaxInt, 1 << 32, -1 << 32, 12, 700, 4500}
	for _, end := range []int{-1, 1, 3, mostYears, 10, 99, 100, lastDay, 36000, mostNumber, mostAmount, 1000000000000000} {
		l = append(l, end-1, end, end+1)
	}
	return l
}

// codes are codes, and texts that are none.
func codes() []string {
	return []string{
		"1", "3.9", "99.99.99.99", "10.1.2", "", " ", "0", "01", "100", "1.", ".1", "1..2", "1.2.3.4.5", "-1", "+1", "1 ", " 1", "1 2", "3 12", "1\n", "x", "1.x", "all", "none", "CODE", "line", "\xff", strings.Repeat("1", 100000),
	}
}

// names are names of headings, and texts that are none.
func names() []string {
	return []string{
		"x", "roads and bridges", "a  b", "5", "!", "~", strings.Repeat("a", 40), "", " ", " a", "a ", "a\n", "a\nb", "a\tb", "a\x00", "a\x7f", "\xff", "a\u00e9", strings.Repeat("a", 41), strings.Repeat("a", 100000),
	}
}

// changed calls f with an article in each of whose fields all values of a list stand, one field at a time.
func changed(a api.Article, f func(api.Article)) {
	for _, n := range numbers() {
		for _, field := range []func(*api.Article) *int{
			func(a *api.Article) *int { return &a.Kind },
			func(a *api.Article) *int { return &a.Year },
			func(a *api.Article) *int { return &a.Amount },
			func(a *api.Article) *int { return &a.Percent },
			func(a *api.Article) *int { return &a.Number },
			func(a *api.Article) *int { return &a.Day },
			func(a *api.Article) *int { return &a.Least },
			func(a *api.Article) *int { return &a.What },
		} {
			b := a
			*field(&b) = n
			f(b)
		}
	}
	for _, text := range append(codes(), names()...) {
		for _, field := range []func(*api.Article) *string{
			func(a *api.Article) *string { return &a.Code },
			func(a *api.Article) *string { return &a.Other },
			func(a *api.Article) *string { return &a.Name },
		} {
			b := a
			*field(&b) = text
			f(b)
		}
	}
}

// some are plain articles and others: all written ones, each with changes.
func some() []api.Article {
	var l []api.Article
	for _, a := range written() {
		l = append(l, a)
		changed(a, func(b api.Article) { l = append(l, b) })
	}
	return l
}

// checkArticle compares Plain, Text and Parse with the reference.
func checkArticle(t *testing.T, a api.Article) {
	t.Helper()
	want := ""
	if isPlain(a) {
		want = textOf(a)
	}
	if got := Plain(a); got != (want != "") {
		t.Errorf("Plain of %.300q: %v", fmt.Sprint(a), got)
	}
	if got := Text(a); got != want {
		t.Errorf("Text of %.300q: %.300q, not %.300q", fmt.Sprint(a), got, want)
	}
	if want == "" {
		return
	}
	if back, e := Parse(want); e != api.OK || back != a {
		t.Errorf("Parse of %q: %v, error %d, not %v", want, back, e, a)
	}
}

// expectSyntax wants that a text is that of no plain article.
func expectSyntax(t *testing.T, text string) {
	t.Helper()
	if a, e := Parse(text); e != api.ErrSyntax || a != (api.Article{}) {
		t.Errorf("Parse of %.200q: %v, error %d", text, a, e)
	}
}

// P4.1

func TestArticlesWithTheirTexts(t *testing.T) {
	for text, a := range written() {
		if !Plain(a) {
			t.Errorf("%v is plain", a)
		}
		if got := Text(a); got != text {
			t.Errorf("Text of %v: %q, not %q", a, got, text)
		}
		if got, e := Parse(text); e != api.OK || got != a {
			t.Errorf("Parse of %q: %v, error %d, not %v", text, got, e, a)
		}
	}
}

func TestArticlesThatAreNotPlain(t *testing.T) {
	for name, a := range map[string]api.Article{
		"nothing":                          {},
		"kind 11":                          {Kind: 11, Code: "1", Year: 12, Amount: 500},
		"kind -1":                          {Kind: -1},
		"another field":                    {Kind: api.ArticleLine, Code: "1", Year: 12, Amount: 500, Percent: 1},
		"a name that is not used":          {Kind: api.ArticleLine, Code: "1", Year: 12, Amount: 500, Name: "schools"},
		"a change of no amendment":         {Kind: api.ArticleLine, Code: "1", Year: 12, Amount: 500, What: api.ChangeLine},
		"a day of no amendment":            {Kind: api.ArticleFloor, Code: "1", Year: 12, Amount: 500, Day: 1},
		"no number of years":               {Kind: api.ArticleYears, Year: 12},
		"five years":                       {Kind: api.ArticleYears, Year: 12, Number: 5},
		"years from 100 on":                {Kind: api.ArticleYears, Year: 100, Number: 1},
		"years from all on":                {Kind: api.ArticleYears, Year: -1, Number: 1},
		"no name":                          {Kind: api.ArticleHeading, Code: "1"},
		"a name with a blank behind it":    {Kind: api.ArticleHeading, Code: "1", Name: "a "},
		"a name of two lines":              {Kind: api.ArticleHeading, Code: "1", Name: "a\nb"},
		"a part of the name in the code":   {Kind: api.ArticleHeading, Code: "1 a", Name: "b"},
		"a name of 41 bytes":               {Kind: api.ArticleHeading, Code: "1", Name: strings.Repeat("a", 41)},
		"no code":                          {Kind: api.ArticleLine, Year: 12, Amount: 500},
		"a year in the code":               {Kind: api.ArticleLine, Code: "1 2", Year: 12, Amount: 500},
		"a line of all years":              {Kind: api.ArticleLine, Code: "1", Year: -1, Amount: 500},
		"a line of year 100":               {Kind: api.ArticleLine, Code: "1", Year: 100, Amount: 500},
		"a negative line":                  {Kind: api.ArticleLine, Code: "1", Year: 12, Amount: -1},
		"a great line":                     {Kind: api.ArticleLine, Code: "1", Year: 12, Amount: mostAmount + 1},
		"a ceiling of year -2":             {Kind: api.ArticleCeiling, Code: "1", Year: -2, Amount: 500},
		"a ceiling of no amount":           {Kind: api.ArticleCeiling, Code: "1", Year: 12, Amount: -1},
		"a floor of no amount":             {Kind: api.ArticleFloor, Code: "1", Year: 12, Amount: -1},
		"an earmark of no source":          {Kind: api.ArticleEarmark, Code: "1", Percent: 5},
		"an earmark of no leaf":            {Kind: api.ArticleEarmark, Other: "1", Percent: 5},
		"101 percent":                      {Kind: api.ArticleEarmark, Other: "1", Code: "2", Percent: 101},
		"-1 percent":                       {Kind: api.ArticleRule, Number: 1, Other: "1", Code: "2", Percent: -1},
		"a wait until too late":            {Kind: api.ArticleWait, Code: "1", Year: 12, Amount: 5, Day: lastDay + 1},
		"a wait until day -1":              {Kind: api.ArticleWait, Code: "1", Year: 12, Amount: 5, Day: -1},
		"a wait of all years":              {Kind: api.ArticleWait, Code: "1", Year: -1, Amount: 5, Day: 1},
		"a wait with a source":             {Kind: api.ArticleWait, Code: "1", Year: 12, Amount: 5, Day: 1, Other: "2"},
		"a wait with a least amount":       {Kind: api.ArticleWait, Code: "1", Year: 12, Amount: 5, Day: 1, Least: 2},
		"a reach with a day":               {Kind: api.ArticleReach, Code: "1", Year: 12, Amount: 5, Other: "2", Least: 3, Day: 1},
		"a reach of a negative amount":     {Kind: api.ArticleReach, Code: "1", Year: 12, Amount: 5, Other: "2", Least: -1},
		"a reach of all years":             {Kind: api.ArticleReach, Code: "1", Year: -1, Amount: 5, Other: "2", Least: 3},
		"rule 0":                           {Kind: api.ArticleRule, Code: "1", Other: "2", Percent: 5},
		"rule 1000001":                     {Kind: api.ArticleRule, Number: mostNumber + 1, Code: "1", Other: "2", Percent: 5},
		"an amendment without a change":    {Kind: api.ArticleAmendment, Day: 5, Number: 1, Code: "1", Year: 12, Amount: 5},
		"an amendment with change 4":       {Kind: api.ArticleAmendment, Day: 5, Number: 1, What: 4, Code: "1", Year: 12, Amount: 5},
		"amendment 0":                      {Kind: api.ArticleAmendment, Day: 5, What: api.ChangeLine, Code: "1", Year: 12, Amount: 5},
		"an amendment that is too late":    {Kind: api.ArticleAmendment, Day: lastDay + 1, Number: 1, What: api.ChangeLine, Code: "1", Year: 12, Amount: 5},
		"a changed line of all years":      {Kind: api.ArticleAmendment, Day: 5, Number: 1, What: api.ChangeLine, Code: "1", Year: -1, Amount: 5},
		"a changed line of no amount":      {Kind: api.ArticleAmendment, Day: 5, Number: 1, What: api.ChangeLine, Code: "1", Year: 12, Amount: -1},
		"a changed floor of no amount":     {Kind: api.ArticleAmendment, Day: 5, Number: 1, What: api.ChangeFloor, Code: "1", Year: 12, Amount: -1},
		"a changed ceiling of amount -2":   {Kind: api.ArticleAmendment, Day: 5, Number: 1, What: api.ChangeCeiling, Code: "1", Year: 12, Amount: -2},
		"a changed ceiling with a percent": {Kind: api.ArticleAmendment, Day: 5, Number: 1, What: api.ChangeCeiling, Code: "1", Year: 12, Amount: 5, Percent: 1},
	} {
		if Plain(a) || Text(a) != "" {
			t.Errorf("%s: plain, with the text %q", name, Text(a))
		}
	}
}

func TestAllChangesOfFields(t *testing.T) {
	for _, a := range some() {
		checkArticle(t, a)
	}
}

func TestArticlesOfManyFields(t *testing.T) {
	r := rand.New(rand.NewSource(1))
	n, c, m := numbers(), codes(), names()
	small := func() int { return r.Intn(6) - 1 }
	number := func() int {
		if r.Intn(4) == 0 {
			return n[r.Intn(len(n))]
		}
		return small()
	}
	text := func(l []string, usual int) string {
		if r.Intn(8) == 0 {
			return l[r.Intn(len(l))]
		}
		return l[r.Intn(usual)]
	}
	plain := 0
	for range 200000 {
		a := api.Article{Kind: r.Intn(12), Code: text(c, 4), Year: number(), Amount: number()}
		switch a.Kind {
		case 1:
			a.Code, a.Amount, a.Number = "", 0, small()
		case 2:
			a.Year, a.Amount, a.Name = 0, 0, text(m, 7)
		case 6, 9:
			a.Year, a.Amount, a.Other, a.Percent = 0, 0, text(c, 4), number()
			a.Number = (a.Kind - 6) / 3 * number()
		case 7:
			a.Day = number()
		case 8:
			a.Other, a.Least = text(c, 4), number()
		case 10:
			a.Day, a.Number, a.What = number(), number(), small()
		}
		if isPlain(a) {
			plain++
		}
		checkArticle(t, a)
	}
	if plain < 20000 {
		t.Errorf("only %d of the articles are plain", plain)
	}
}

func TestTextsOfNoArticle(t *testing.T) {
	for _, text := range []string{
		"", " ", "\n", "x", "1", "all", "none", "#", "# line 1 12 5", "years", "line", "amend", "LINE 1 12 5", "Line 1 12 5", "lines 1 12 5", "lin 1 12 5", "line1 12 5", "schools 1 12 5",
		// Too few parts, or too many.
		"years 12", "heading 1", "heading", "line 1 12", "ceiling 1 12", "floor 1 all", "earmark 1 2", "wait 1 12 5", "reach 1 12 5 2", "rule 1 1 2", "amend 12-01-01 1 line 1 12", "amend 12-01-01 1 line",
		"years 12 1 1", "line 1 12 5 6", "ceiling 1 12 5 6", "floor 1 all 5 all", "earmark 1 2 3 4", "wait 1 12 5 12-01-01 1", "reach 1 12 5 2 3 4", "rule 1 1 2 3 4", "amend 12-01-01 1 line 1 12 5 6",
		// Blanks that are not single ones, and other signs in their place.
		" line 1 12 5", "line 1 12 5 ", "line  1 12 5", "line 1  12 5", "line 1 12  5", "line\t1 12 5", "line 1\t12 5", "line 1 12 5\n", "line 1 12 5\r", "\nline 1 12 5", "line 1 12\n5", "line 1 12\u00a05", "line,1,12,5", "line 1 12 5\x00",
		"years 12 1 ", "earmark 1 2 3 ", "rule 1 1 2 3 ", "wait 1 12 5 12-01-01 ", "reach 1 12 5 2 3 ", "amend 12-01-01 1 ceiling 1 all none ", "ceiling 1 all 5 ", "amend 12-01-01 1 line 1 12  5", "amend 12-01-01  1 line 1 12 5",
		// Numbers that are no numbers, have superfluous zeros, or are out of their ranges.
		"years 012 1", "years 12 01", "years 00 1", "years 12 0", "years 12 5", "years 100 1", "years -1 1", "years all 1", "years +12 1", "years 12 one", "years 12 \u0661", "years  1", "years 12 ",
		"line 1 12 05", "line 1 12 00", "line 1 12 -5", "line 1 12 -0", "line 1 12 +5", "line 1 12 5.0", "line 1 12 5e2", "line 1 12 0x5", "line 1 12 1_000", "line 1 12 1000000000001", "line 1 12 18446744073709551621", "line 1 12 none", "line 1 12 ",
		"line 1 all 5", "line 1 -1 5", "line 1 100 5", "line 1 ALL 5", "line 1  5", "line 1 12 1000000000000000",
		// Codes that are none.
		"line 0 12 5", "line 01 12 5", "line 100 12 5", "line 1. 12 5", "line .1 12 5", "line 1..2 12 5", "line 1.2.3.4.5 12 5", "line x 12 5", "line  12 5", "line 1,2 12 5",
		// Names that are none.
		"heading 1 ", "heading 1  a", "heading 1 a ", "heading 1 a\n", "heading 1 a\nb", "heading 1 a\tb", "heading 1 \x7f", "heading 1 \u00e9", "heading 1 \xff", "heading 1 " + strings.Repeat("a", 41), "heading 0 a", "heading 01 a", "heading  a", "heading schools 1",
		// Spans and amounts where they may not be, or what is none.
		"ceiling 1 none 5", "ceiling 1 all none", "ceiling 1 12 none", "ceiling 1 every 5", "ceiling 1 -1 5", "ceiling 1 100 5", "ceiling 1 all -1", "ceiling 1 all 1000000000001", "floor 1 all none", "floor 1 none 5", "floor 1 -1 5",
		"wait 1 all 5 12-01-01", "wait 1 12 none 12-01-01", "reach 1 all 5 2 3", "reach 1 12 none 2 3", "reach 1 12 5 2 none", "reach 1 12 5 2 1000000000001", "reach 1 12 5 x 3", "reach x 12 5 2 3",
		"earmark 1 2 101", "earmark 1 2 -1", "earmark 1 2 050", "earmark 1 2 50%", "earmark x 2 50", "earmark 1 x 50", "rule 0 1 2 3", "rule 1000001 1 2 3", "rule 01 1 2 3", "rule 1 1 2 101", "rule 1 x 2 3", "rule 1 1 x 3", "rule 1 2 3",
		// Days that are none, are too late, or are written in another way.
		"wait 1 12 5 4320", "wait 1 12 5 12-1-1", "wait 1 12 5 012-01-01", "wait 1 12 5 12-13-01", "wait 1 12 5 12-01-31", "wait 1 12 5 12-00-01", "wait 1 12 5 12-01-00", "wait 1 12 5 99-12-22", "wait 1 12 5 99-12-30", "wait 1 12 5 100-01-01", "wait 1 12 5 -1-01-01", "wait 1 12 5 ", "wait 1 12 5 x",
		"amend 99-12-22 1 line 1 12 5", "amend 100-01-01 1 line 1 12 5", "amend 12-01-1 1 line 1 12 5", "amend 4320 1 line 1 12 5", "amend  1 line 1 12 5", "amend 1 12-01-01 line 1 12 5",
		"amend 12-01-01 0 line 1 12 5", "amend 12-01-01 1000001 line 1 12 5", "amend 12-01-01 01 line 1 12 5", "amend 12-01-01 1 line 1 all 5", "amend 12-01-01 1 line 1 12 none", "amend 12-01-01 1 line 1 -1 5", "amend 12-01-01 1 line 1 12 -1",
		"amend 12-01-01 1 floor 1 all none", "amend 12-01-01 1 floor 1 12 none", "amend 12-01-01 1 floor 1 none 5", "amend 12-01-01 1 ceiling 1 none none", "amend 12-01-01 1 ceiling 1 all -1", "amend 12-01-01 1 ceiling 1 all all", "amend 12-01-01 1 ceiling x all none", "amend 12-01-01 1 ceiling 1 100 none",
		"amend 12-01-01 1 heading 1 12 5", "amend 12-01-01 1 earmark 1 12 5", "amend 12-01-01 1 years 1 12 5", "amend 12-01-01 1 2 1 12 5", "amend 12-01-01 1 LINE 1 12 5", "amend 12-01-01 1 CHANGE 1 12 5", "amend 12-01-01 1  1 12 5",
		// The words of the forms themselves.
		"years YEAR NUMBER", "years YEAR COUNT", "heading CODE NAME", "line CODE YEAR AMOUNT", "earmark CODE CODE PERCENT", "ceiling CODE SPAN AMOUNT",
		"\xff\xfe", strings.Repeat(" ", 1000), strings.Repeat("line ", 10000), "line 1 12 " + strings.Repeat("9", 100000), "line " + strings.Repeat("1.", 100000) + " 12 5", strings.Repeat("x", 1000000),
	} {
		expectSyntax(t, text)
	}
}

// checkText compares Parse with the reference; a text that is read is also that of the article.
func checkText(t *testing.T, all map[int]*regexp.Regexp, text string) bool {
	t.Helper()
	want, e := readBy(all, text)
	got, err := Parse(text)
	if got != want || err != e {
		t.Errorf("Parse of %q: %v, error %d, not %v, error %d", text, got, err, want, e)
	}
	if err == api.OK && (!Plain(got) || Text(got) != text) {
		t.Errorf("Text of Parse of %q: %q", text, Text(got))
	}
	return e == api.OK
}

func TestParseChangedTexts(t *testing.T) {
	all := lineForms()
	read := 0
	for text := range written() {
		for i := range len(text) + 1 {
			l := []string{text[:i], text[i:]}
			for _, b := range []byte("0159 -.+anx\n\x00\xff") {
				l = append(l, text[:i]+string([]byte{b})+text[i:])
				if i < len(text) {
					l = append(l, text[:i]+string([]byte{b})+text[i+1:])
				}
			}
			if i < len(text) {
				l = append(l, text[:i]+text[i+1:])
			}
			for _, changed := range l {
				if checkText(t, all, changed) {
					read++
				}
			}
		}
	}
	if read < 1000 {
		t.Errorf("only %d of the changed texts are read", read)
	}
}

func TestParseOtherWords(t *testing.T) {
	all := lineForms()
	words := []string{
		"", "0", "1", "4", "5", "12", "99", "100", "101", "1000000", "1000001", "1000000000000", "1000000000001", "999999999999999", "1000000000000000", "all", "none", "line", "ceiling", "floor", "heading", "3.9", "8", "99-12-21", "99-12-22", "12-01-01", "-1", "00", "a b",
	}
	read := 0
	for text := range written() {
		parts := strings.Split(text, " ")
		for i := range parts {
			for k := range parts {
				swapped := slices.Clone(parts)
				swapped[i], swapped[k] = swapped[k], swapped[i]
				checkText(t, all, strings.Join(swapped, " "))
			}
			for _, word := range words {
				other := slices.Clone(parts)
				other[i] = word
				if checkText(t, all, strings.Join(other, " ")) {
					read++
				}
				checkText(t, all, strings.Join(slices.Insert(slices.Clone(parts), i, word), " "))
			}
			checkText(t, all, strings.Join(slices.Delete(slices.Clone(parts), i, i+1), " "))
		}
	}
	if read < 1000 {
		t.Errorf("only %d of the changed texts are read", read)
	}
}

// P4.2

func TestNumber(t *testing.T) {
	for text, want := range map[string]int{
		"0": 0, "1": 1, "9": 9, "10": 10, "12": 12, "100": 100, "5000": 5000, "1000000000000": 1000000000000, "99999999999999": 99999999999999, "100000000000000": 100000000000000, "999999999999999": 999999999999999,
	} {
		if got, ok := Number(text); got != want || !ok {
			t.Errorf("Number of %q: %d, %v", text, got, ok)
		}
	}
	for _, text := range []string{
		"", " ", "00", "01", "000000000000000", "012", "0000000000000001", "1000000000000000", "9999999999999999", "18446744073709551616", "18446744073709551617", "9223372036854775807", "-1", "-0", "+0", "+1", "- 1", " 1", "1 ", "1\n", "\n1", "1\x00", "1 2",
		"1.0", "1,000", "1_000", "0_1", "1e3", "0x1", "0b1", "0o7", "1a", "a1", "a", "all", "none", "NaN", "Inf", "\u0661", "\uff11", "1\u0661", "\xff", "1\xff", "\u00b2", strings.Repeat("1", 16), strings.Repeat("0", 100000), strings.Repeat("9", 100000),
	} {
		if got, ok := Number(text); got != 0 || ok {
			t.Errorf("Number of %.100q: %d, %v", text, got, ok)
		}
	}
}

func TestNumberOfManyTexts(t *testing.T) {
	r := rand.New(rand.NewSource(2))
	for range 100000 {
		text := make([]byte, r.Intn(18))
		for i := range text {
			text[i] = "0123456789"[r.Intn(10)]
			if r.Intn(40) == 0 {
				text[i] = byte(r.Intn(256))
			}
		}
		checkNumber(t, string(text))
	}
	for a := range 256 {
		checkNumber(t, string([]byte{byte(a)}))
		for b := range 256 {
			checkNumber(t, string([]byte{byte(a), byte(b)}))
		}
	}
}

// checkNumber compares Number with the form of a number.
func checkNumber(t *testing.T, text string) {
	t.Helper()
	want, fits := 0, numberForm.MatchString(text)
	for i := 0; fits && i < len(text); i++ {
		want = 10*want + int(text[i]-'0')
	}
	if got, ok := Number(text); got != want || ok != fits {
		t.Errorf("Number of %q: %d, %v, not %d, %v", text, got, ok, want, fits)
	}
}

// P4.3

// inOrder are articles in their order; those in one list are equal.
func inOrder() [][]api.Article {
	other := api.Article{Kind: api.ArticleLine, Code: "1", Year: 12, Amount: 5, Least: 1}
	l := [][]api.Article{{{}, other, {Kind: 11}, {Kind: -1}, {Kind: math.MaxInt, Code: "x"}, {Kind: api.ArticleYears}}}
	for _, text := range []string{
		"years 12 1", "years 2 4", // by their bytes, not by their numbers
		"heading 1 a", "heading 1 b", "heading 1.1 a", "heading 10 a", "heading 2 a",
		"line 1 12 5", "line 1 12 50", "line 1 12 6", "line 1 2 1", "line 3.10 12 5", "line 3.9 12 5",
		"ceiling 3 0 1", "ceiling 3 99 1", "ceiling 3 all 1", // behind lines, though its text is not
		"floor 1 all 1",
		"earmark 8 3 5",
		"wait 1 12 5 12-01-01", "wait 1 12 5 9-01-01",
		"reach 1 12 5 2 1",
		"rule 1 1 2 3", "rule 10 1 2 3", "rule 2 1 2 3",
		"amend 12-01-01 1 ceiling 9 all 1", "amend 12-01-01 1 floor 1 12 5", "amend 12-01-01 1 line 1 12 5", "amend 12-01-01 10 line 1 12 5", "amend 9-01-01 1 line 1 12 5",
	} {
		a, _ := Parse(text)
		l = append(l, []api.Article{a})
	}
	return l
}

func TestCompare(t *testing.T) {
	l := inOrder()
	for i := range l {
		for k := range l {
			want := 0
			if i < k {
				want = -1
			}
			if i > k {
				want = 1
			}
			for _, a := range l[i] {
				for _, b := range l[k] {
					if got := Compare(a, b); got != want {
						t.Errorf("Compare of %v and %v: %d, not %d", a, b, got, want)
					}
				}
			}
		}
	}
}

// orderOf compares articles by the reference.
func orderOf(a, b api.Article) int {
	key := func(a api.Article) string {
		if !isPlain(a) {
			return ""
		}
		return fmt.Sprintf("%02d %s", a.Kind, textOf(a))
	}
	return strings.Compare(key(a), key(b))
}

func TestCompareManyArticles(t *testing.T) {
	r := rand.New(rand.NewSource(3))
	var l []api.Article
	for _, a := range some() {
		// Most of the changed articles are not plain.
		if isPlain(a) || r.Intn(20) == 0 {
			l = append(l, a)
		}
	}
	for range 100000 {
		a, b := l[r.Intn(len(l))], l[r.Intn(len(l))]
		if got, want := Compare(a, b), orderOf(a, b); got != want {
			t.Errorf("Compare of %.300q and %.300q: %d, not %d", fmt.Sprint(a), fmt.Sprint(b), got, want)
		}
	}
	for _, a := range l {
		if Compare(a, a) != 0 {
			t.Errorf("%.300q is not equal to itself", fmt.Sprint(a))
		}
	}
}
