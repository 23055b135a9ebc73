package budget

import (
	"fmt"
	"math/rand"
	"reflect"
	"slices"
	"strings"
	"testing"

	"treasury/api"
	"treasury/article"
)

// read returns the articles of lines, which need not make a law.
func read(t *testing.T, lines ...string) []api.Article {
	t.Helper()
	var l []api.Article
	for _, line := range lines {
		a, e := article.Parse(line)
		if e != api.OK {
			t.Fatalf("%q is no article", line)
		}
		l = append(l, a)
	}
	return l
}

// fullArticles are the articles of the full law.
func fullArticles(t *testing.T) []api.Article {
	return read(t, strings.Split(strings.TrimSpace(fullText), "\n")...)
}

// expectOf compares what articles make with a law and an error.
func expectOf(t *testing.T, name string, articles []api.Article, want api.Law, e api.Errno) {
	t.Helper()
	before := slices.Clone(articles)
	got, err := Of(articles)
	if !equal(got, want) || err != e {
		t.Errorf("%s: error %d, not %d, %+v", name, err, e, got)
	}
	if !slices.Equal(articles, before) {
		t.Errorf("%s: Of has changed the articles", name)
	}
}

// P5.3

func TestArticles(t *testing.T) {
	if got, want := Articles(full()), fullArticles(t); !slices.Equal(got, want) {
		t.Errorf("articles of the full law: %+v, not %+v", got, want)
	}
	if got := Articles(api.Law{First: 99, Years: 1}); !slices.Equal(got, read(t, "years 99 1")) {
		t.Errorf("articles of a law with years alone: %v", got)
	}
	got := Articles(api.Law{First: 12, Years: 1, Tree: []api.Heading{{Code: "1", Name: "schools"}}, Lines: []api.Line{{Code: "1", Year: 12, Amount: 500}}})
	if !slices.Equal(got, read(t, "years 12 1", "heading 1 schools", "line 1 12 500")) {
		t.Errorf("articles of a law with one line: %v", got)
	}
}

func TestLawsWithoutArticles(t *testing.T) {
	laws := map[string]api.Law{"no law": {}}
	for _, f := range faults() {
		laws[f.name] = changed(full(), f.change)
	}
	for name, l := range laws {
		if got := Articles(l); len(got) != 0 {
			t.Errorf("%s: articles %v", name, got)
		}
		if got := Text(l); got != "?" {
			t.Errorf("%s: text %q", name, got)
		}
	}
}

func TestOf(t *testing.T) {
	expectOf(t, "everything", fullArticles(t), full(), api.OK)
	expectOf(t, "years alone", read(t, "years 12 4"), api.Law{First: 12, Years: 4}, api.OK)
	expectOf(t, "lists out of order", read(t, "amend 12-01-02 1 floor 2 all 1", "rule 10 2 10 1", "line 10 12 1", "amend 12-01-01 2 line 2 13 8", "floor 10 all 2", "ceiling 2 12 5", "line 2 13 3", "heading 10 ten", "amend 12-01-01 10 line 2 13 9", "ceiling 2 all 6", "years 12 2", "rule 9 2 2 2",
		"earmark 10 2 3", "line 2 12 2", "floor 2 13 1", "amend 12-01-01 2 ceiling 2 all none", "heading 2 two", "earmark 2 10 4", "earmark 10 10 5", "amend 12-01-01 2 line 2 12 7", "floor 2 all 1"), api.Law{
		First: 12, Years: 2, Tree: []api.Heading{{Code: "2", Name: "two"}, {Code: "10", Name: "ten"}},
		Lines:    []api.Line{{Code: "2", Year: 12, Amount: 2}, {Code: "2", Year: 13, Amount: 3}, {Code: "10", Year: 12, Amount: 1}},
		Ceilings: []api.Bound{{Code: "2", Year: -1, Amount: 6}, {Code: "2", Year: 12, Amount: 5}},
		Floors:   []api.Bound{{Code: "2", Year: -1, Amount: 1}, {Code: "2", Year: 13, Amount: 1}, {Code: "10", Year: -1, Amount: 2}},
		Earmarks: []api.Earmark{{Source: "2", Code: "10", Percent: 4}, {Source: "10", Code: "2", Percent: 3}, {Source: "10", Code: "10", Percent: 5}},
		Rules:    []api.Rule{{Number: 9, From: "2", To: "2", Percent: 2}, {Number: 10, From: "2", To: "10", Percent: 1}},
		Amendments: []api.Amendment{
			{Day: 4320, Number: 2, Changes: []api.Change{{Kind: 1, Code: "2", Year: 12, Amount: 7}, {Kind: 1, Code: "2", Year: 13, Amount: 8}, {Kind: 2, Code: "2", Year: -1, Amount: -1}}},
			{Day: 4320, Number: 10, Changes: []api.Change{{Kind: 1, Code: "2", Year: 13, Amount: 9}}},
			{Day: 4321, Number: 1, Changes: []api.Change{{Kind: 3, Code: "2", Year: -1, Amount: 1}}},
		},
	}, api.OK)
}

func TestConditionsKeepTheirOrder(t *testing.T) {
	wait, reach, late := "wait 1 12 5 12-01-01", "reach 1 12 4 2 3", "wait 2 12 5 0-01-01"
	for _, order := range [][]string{{wait, reach, late}, {wait, late, reach}, {reach, wait, late}, {reach, late, wait}, {late, wait, reach}, {late, reach, wait}, {late, late, wait}} {
		var want []api.Condition
		lines := []string{"heading 2 b"}
		for i, line := range order {
			want = append(want, map[string]api.Condition{
				wait: {Code: "1", Year: 12, Amount: 5, Kind: 1, Day: 4320}, reach: {Code: "1", Year: 12, Amount: 4, Kind: 2, Source: "2", Least: 3}, late: {Code: "2", Year: 12, Amount: 5, Kind: 1},
			}[line])
			lines = append(lines, line, []string{"line 2 12 1", "years 12 1", "heading 1 a"}[i])
		}
		expectOf(t, fmt.Sprint(order), read(t, lines...), api.Law{
			First: 12, Years: 1, Tree: []api.Heading{{Code: "1", Name: "a"}, {Code: "2", Name: "b"}}, Lines: []api.Line{{Code: "2", Year: 12, Amount: 1}}, Conditions: want,
		}, api.OK)
	}
}

func TestErrorsOfOf(t *testing.T) {
	law := []string{"years 12 2", "heading 1 a", "heading 2 b", "heading 2.1 c"}
	for name, c := range map[string]struct {
		lines []string
		e     api.Errno
	}{
		"heading twice":            {[]string{"heading 1 d"}, api.ErrOrder},
		"heading without a parent": {[]string{"heading 3.1 d"}, api.ErrUnknown},
		"no leaf":                  {[]string{"line 2 12 5"}, api.ErrCode},
		"another year":             {[]string{"line 1 14 5"}, api.ErrYear},
		"line twice":               {[]string{"line 1 12 5", "line 2.1 12 5", "line 1 12 6"}, api.ErrOrder},
		"ceiling twice":            {[]string{"ceiling 1 all 5", "floor 1 all 5", "ceiling 1 all 5"}, api.ErrOrder},
		"floor twice":              {[]string{"floor 1 12 5", "floor 1 13 5", "floor 1 12 6"}, api.ErrOrder},
		"earmark twice":            {[]string{"earmark 2 1 5", "earmark 2.1 1 5", "earmark 2 1 6"}, api.ErrOrder},
		"shares":                   {[]string{"earmark 2 1 50", "earmark 2.1 1 51"}, api.ErrShare},
		"source":                   {[]string{"reach 1 12 5 3 5"}, api.ErrCode},
		"rule twice":               {[]string{"rule 5 1 2 3", "rule 4 1 2 3", "rule 5 2 1 3"}, api.ErrOrder},
		"change twice":             {[]string{"amend 12-01-01 5 line 1 12 3", "amend 12-01-01 6 line 1 12 3", "amend 12-01-01 5 line 1 12 4"}, api.ErrOrder},
		"changed line":             {[]string{"amend 12-01-01 5 line 2 12 3"}, api.ErrCode},
		"changed year":             {[]string{"amend 12-01-01 5 floor 2 11 3"}, api.ErrYear},
	} {
		expectOf(t, name, read(t, append(c.lines, law...)...), api.Law{}, c.e)
		expectOf(t, name+", without years", read(t, append(c.lines, law[1:]...)...), api.Law{}, api.ErrUnknown)
		expectOf(t, name+", with years twice", read(t, append(c.lines, append(law, law[0])...)...), api.Law{}, api.ErrDuplicate)
		for _, wrong := range []api.Article{{}, {Kind: api.ArticleYears, Year: 12}, {Kind: api.ArticleLine, Code: "1", Year: 12, Amount: -1}, {Kind: api.ArticleHeading, Code: "x", Name: "y"}, {Kind: 11}, {Kind: api.ArticleYears, Year: 12, Number: 1, Day: 1}} {
			for _, l := range [][]api.Article{append(read(t, c.lines...), wrong), append([]api.Article{wrong}, read(t, append(law, law[0])...)...), {wrong}} {
				expectOf(t, name+", with an article that is not plain", l, api.Law{}, api.ErrInvalid)
			}
		}
	}
	expectOf(t, "nothing", nil, api.Law{}, api.ErrUnknown)
	expectOf(t, "an empty list", []api.Article{}, api.Law{}, api.ErrUnknown)
	expectOf(t, "years that go too far", read(t, "years 97 4"), api.Law{}, api.ErrRange)
	expectOf(t, "different years", read(t, "years 12 1", "years 13 1"), api.Law{}, api.ErrDuplicate)
}

func TestLimitsOfOf(t *testing.T) {
	l := longest()
	all := Articles(l)
	expectOf(t, "the longest law", all, l, api.OK)
	for _, more := range []string{"heading 99 x", "line 31 50 1", "ceiling 13 all 1", "floor 13 all 1", "earmark 3 1 10", "wait 1 50 1 0-01-01", "rule 1 9 9 0", "amend 0-01-01 1 line 1 50 1", "amend 99-12-21 1000000 floor 1 all 1"} {
		expectOf(t, "the longest law, and "+more, append(slices.Clone(all), read(t, more)...), api.Law{}, api.ErrLimit)
	}
}

// shuffle puts articles into another order, but for conditions.
func (c chance) shuffle(l []api.Article) []api.Article {
	isCondition := func(a api.Article) bool { return a.Kind == api.ArticleWait || a.Kind == api.ArticleReach }
	var conditions []api.Article
	l = slices.Clone(l)
	for _, a := range l {
		if isCondition(a) {
			conditions = append(conditions, a)
		}
	}
	c.Shuffle(len(l), func(i, k int) { l[i], l[k] = l[k], l[i] })
	for i, a := range l {
		if isCondition(a) {
			l[i] = conditions[0]
			conditions = conditions[1:]
		}
	}
	return l
}

func TestOrderOfArticles(t *testing.T) {
	c := chance{rand.New(rand.NewSource(2))}
	for i := range 600 {
		l := full()
		if i%3 > 0 {
			l = c.law(1 + c.Intn(30))
		}
		all := Articles(l)
		expectOf(t, "articles in order", all, l, api.OK)
		expectOf(t, "articles in another order", c.shuffle(all), l, api.OK)
	}
}

// TestOrderOfArticlesOfNoLaw doubles and exchanges articles, so that they make no law: which error it is does not depend on their order.
func TestOrderOfArticlesOfNoLaw(t *testing.T) {
	c := chance{rand.New(rand.NewSource(3))}
	for range 600 {
		all := Articles(c.law(1 + c.Intn(12)))
		for range 1 + c.Intn(4) {
			a := all[c.Intn(len(all))]
			switch c.Intn(3) {
			case 0:
				a.Code = words()[c.Intn(len(words()))]
			case 1:
				a.Other = words()[c.Intn(len(words()))]
			}
			all = append(all, a)
		}
		want, e := Of(all)
		for range 3 {
			expectOf(t, "articles in another order", c.shuffle(all), want, e)
		}
	}
}

// TestRulesOfOneNumber has several rules of one number, of which some are from or to a code that is not there.
func TestRulesOfOneNumber(t *testing.T) {
	c := chance{rand.New(rand.NewSource(4))}
	for range 300 {
		all := read(t, "years 12 1", "heading 1 a", "heading 2 b")
		for range 3 + c.Intn(6) {
			all = append(all, read(t, fmt.Sprintf("rule %d %d %d %d", 5+c.Intn(8)/7, 1+c.Intn(9)/4, 1+c.Intn(9)/4, c.Intn(3)))...)
		}
		want, e := Of(all)
		for range 20 {
			expectOf(t, "rules in another order", c.shuffle(all), want, e)
		}
	}
}

// TestMemory changes a result: the arguments, and other lists of the result, stay as they are.
func TestMemory(t *testing.T) {
	all := fullArticles(t)
	got, _ := Of(all)
	for i := range got.Amendments {
		before := clone(got)
		got.Amendments[i].Changes = append(got.Amendments[i].Changes, api.Change{Kind: 99})
		before.Amendments[i].Changes = append(before.Amendments[i].Changes, api.Change{Kind: 99})
		if !equal(got, before) {
			t.Errorf("a change behind those of amendment %d changes others", i)
		}
	}
	got.Ceilings = append(got.Ceilings, api.Bound{Code: "y"})
	got.Ceilings[0].Code = "x"
	if got.Floors[0].Code != "2" || got.Lines[0].Code != "1" || !slices.Equal(all, fullArticles(t)) {
		t.Error("a changed ceiling changes others")
	}
	l := full()
	articles := Articles(l)
	for i := range articles {
		articles[i] = api.Article{}
	}
	if Text(l) != fullText || !equal(l, full()) {
		t.Error("changed articles, or the text, change the law")
	}
}

// P5.4

// expectParse compares what a text makes with a law, a number and an error.
func expectParse(t *testing.T, text string, want api.Law, number int, e api.Errno) {
	t.Helper()
	got, n, err := Parse(text)
	if !equal(got, want) || n != number || err != e {
		t.Errorf("Parse of %.200q: %d, error %d, not %d, error %d, %+v", text, n, err, number, e, got)
	}
}

func TestText(t *testing.T) {
	for text, l := range map[string]api.Law{
		fullText:      full(),
		"years 0 1\n": {Years: 1},
		"years 12 1\nheading 1 schools\nline 1 12 500\n": {First: 12, Years: 1, Tree: []api.Heading{{Code: "1", Name: "schools"}}, Lines: []api.Line{{Code: "1", Year: 12, Amount: 500}}},
	} {
		if got := Text(l); got != text {
			t.Errorf("text %q, not %q", got, text)
		}
		expectParse(t, text, l, 0, api.OK)
	}
}

func TestParseOtherTexts(t *testing.T) {
	small := api.Law{First: 12, Years: 1, Tree: []api.Heading{{Code: "1", Name: "#schools # 2"}}, Lines: []api.Line{{Code: "1", Year: 12, Amount: 500}}}
	for _, text := range []string{
		"years 12 1\nheading 1 #schools # 2\nline 1 12 500\n",
		"years 12 1\nheading 1 #schools # 2\nline 1 12 500",
		"\n\n\nyears 12 1\n\nheading 1 #schools # 2\n\n\nline 1 12 500\n\n\n",
		"# a law\n#\n##\n# line 1 12 7\n#line 1 12 8\nyears 12 1\n# \xff\x00\r\nheading 1 #schools # 2\nline 1 12 500\n# end",
		"line 1 12 500\nheading 1 #schools # 2\n#\r\nyears 12 1",
		"#" + strings.Repeat(" ", 5000) + "\n" + strings.Repeat("\n", 5000) + "years 12 1\nheading 1 #schools # 2\nline 1 12 500\n",
	} {
		expectParse(t, text, small, 0, api.OK)
	}
	expectParse(t, strings.TrimSuffix(fullText, "\n"), full(), 0, api.OK)
}

func TestParseErrors(t *testing.T) {
	for text, want := range map[string]struct {
		number int
		e      api.Errno
	}{
		"x":                             {1, api.ErrSyntax},
		" ":                             {1, api.ErrSyntax},
		"\r\n":                          {1, api.ErrSyntax},
		"\n\n\t":                        {3, api.ErrSyntax},
		" # no comment":                 {1, api.ErrSyntax},
		"years 12 1\r\nheading 1 a\r\n": {1, api.ErrSyntax},
		"years 12 1\nheading 1 a \n":    {2, api.ErrSyntax},
		"years 12 1\n\n# x\nheading 1 a\nline 1 12\nx\n": {5, api.ErrSyntax},
		"years 12 1\nheading 1 a\nline 1 12 5 # five":    {3, api.ErrSyntax},
		"years 12 1 heading 1 a":                         {1, api.ErrSyntax},
		"years 12 5":                                     {1, api.ErrSyntax},
		"\n\nyears 012 1\n":                              {3, api.ErrSyntax},
		"years 12 1\nyears 12 1\nx":                      {3, api.ErrSyntax},
		"line 1 12 5\n?":                                 {2, api.ErrSyntax},
		"?":                                              {1, api.ErrSyntax},
		"years 12 1\x00":                                 {1, api.ErrSyntax},
		"":                                               {0, api.ErrUnknown},
		"\n":                                             {0, api.ErrUnknown},
		"#":                                              {0, api.ErrUnknown},
		"\n# years 12 1\n\n":                             {0, api.ErrUnknown},
		"heading 1 a\nheading 1 a":                       {0, api.ErrUnknown},
		"years 12 1\nyears 12 1":                         {0, api.ErrDuplicate},
		"years 12 1\n\nline 1 12 5\nyears 13 1\n": {0, api.ErrDuplicate},
		"years 99 2":                                                             {0, api.ErrRange},
		"years 12 1\nline 1 12 5\n":                                              {0, api.ErrCode},
		"years 12 1\nheading 1 a\nline 1 13 5\n":                                 {0, api.ErrYear},
		"years 12 1\nheading 1.1 a\n":                                            {0, api.ErrUnknown},
		"years 12 1\nheading 1 a\nheading 1 b\n":                                 {0, api.ErrOrder},
		"years 12 1\nheading 1 a\nearmark 1 1 100\nearmark 1 1 0\n":              {0, api.ErrOrder},
		"years 12 1\nheading 1 a\nheading 2 b\nearmark 1 1 100\nearmark 1 2 1\n": {0, api.ErrShare},
		strings.Repeat("x", mostText):                                            {1, api.ErrSyntax},
		strings.Repeat("x", mostText+1):                                          {0, api.ErrLimit},
		strings.Repeat("\n", mostText-1) + "x":                                   {mostText, api.ErrSyntax},
		strings.Repeat("\n", mostText+1):                                         {0, api.ErrLimit},
		"#" + strings.Repeat("\xff", mostText):                                   {0, api.ErrLimit},
		strings.Repeat("years 12 1\n", 200):                                      {0, api.ErrDuplicate},
		strings.Repeat("years 12 1\n", 200) + "years":                            {201, api.ErrSyntax},
		strings.Repeat("line 1 12 5\n", 1000):                                    {0, api.ErrUnknown},
		strings.Repeat("x\n", 100000):                                            {0, api.ErrLimit},
	} {
		expectParse(t, text, api.Law{}, want.number, want.e)
	}
}

func TestLongTexts(t *testing.T) {
	text := "years 12 1\n#"
	text += strings.Repeat("x", mostText-len(text))
	expectParse(t, text, api.Law{First: 12, Years: 1}, 0, api.OK)
	expectParse(t, text+"x", api.Law{}, 0, api.ErrLimit)
	l := longest()
	text = Text(l)
	if len(text) <= mostText || strings.Count(text, "\n") != len(Articles(l)) {
		t.Errorf("text of the longest law: %d bytes", len(text))
	}
	expectParse(t, text, api.Law{}, 0, api.ErrLimit)
}

func TestTextsOfManyLaws(t *testing.T) {
	c := chance{rand.New(rand.NewSource(5))}
	for range 600 {
		l := c.law(1 + c.Intn(20))
		text := Text(l)
		if len(text) > mostText {
			expectParse(t, text, api.Law{}, 0, api.ErrLimit)
			continue
		}
		expectParse(t, text, l, 0, api.OK)
		lines := strings.Split(text, "\n")
		for i, a := range Articles(l) {
			if lines[i] != article.Text(a) {
				t.Errorf("line %q of the article %v", lines[i], a)
			}
		}
		// The order of lines other than conditions makes no difference.
		var shuffled []string
		for _, a := range c.shuffle(Articles(l)) {
			shuffled = append(shuffled, article.Text(a))
		}
		expectParse(t, strings.Join(shuffled, "\n"), l, 0, api.OK)
	}
}

func TestSame(t *testing.T) {
	for name, l := range map[string]api.Law{"everything": full(), "the longest law": longest(), "no law": {}, "an amendment without changes": {Amendments: []api.Amendment{{}}}} {
		if !Same(l, l) || !Same(l, clone(l)) || !Same(clone(l), l) {
			t.Errorf("%s is not the same as itself", name)
		}
	}
	for _, f := range faults() {
		l := changed(full(), f.change)
		if Same(l, full()) || Same(full(), l) {
			t.Errorf("%s: the same as the full law", f.name)
		}
		if !Same(l, clone(l)) {
			t.Errorf("%s: not the same as itself", f.name)
		}
	}
}

func TestSameOfChangedFields(t *testing.T) {
	n := 0
	for range fields(&[]api.Law{full()}[0]) {
		n++
	}
	for i := range n {
		l := full()
		k := 0
		for v := range fields(&l) {
			if k == i && v.Kind() == reflect.Int {
				v.SetInt(v.Int() ^ 1)
			}
			if k == i && v.Kind() == reflect.String {
				v.SetString(v.String() + " ")
			}
			k++
		}
		if Same(l, full()) || Same(full(), l) {
			t.Errorf("the law is the same with field %d changed", i)
		}
	}
}

func TestSameOfChangedLists(t *testing.T) {
	n := 0
	for range lists(&[]api.Law{full()}[0]) {
		n++
	}
	for i := range n {
		for name, change := range map[string]func(v reflect.Value){
			"one less":    func(v reflect.Value) { v.SetLen(v.Len() - 1) },
			"one more":    func(v reflect.Value) { v.Set(reflect.AppendSlice(v, v.Slice(0, 1))) },
			"without any": func(v reflect.Value) { v.SetZero() },
			"another order": func(v reflect.Value) {
				if v.Len() > 1 {
					reflect.Swapper(v.Interface())(0, v.Len()-1)
				} else {
					v.SetZero()
				}
			},
		} {
			l := full()
			k := 0
			for v := range lists(&l) {
				if k == i {
					change(v)
				}
				k++
			}
			if Same(l, full()) || Same(full(), l) {
				t.Errorf("the law is the same with list %d changed: %s", i, name)
			}
		}
	}
	// nil and empty lists mean the same.
	empty := api.Law{Tree: []api.Heading{}, Lines: []api.Line{}, Ceilings: []api.Bound{}, Floors: []api.Bound{}, Earmarks: []api.Earmark{}, Conditions: []api.Condition{}, Rules: []api.Rule{}, Amendments: []api.Amendment{}}
	if !Same(empty, api.Law{}) || !Same(api.Law{}, empty) {
		t.Error("a law with empty lists is not the same as one without lists")
	}
	if !Same(api.Law{Amendments: []api.Amendment{{Changes: []api.Change{}}}}, api.Law{Amendments: []api.Amendment{{}}}) {
		t.Error("an amendment with an empty list is not the same as one without changes")
	}
}
