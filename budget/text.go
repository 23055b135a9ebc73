package budget

import (
	"cmp"
	"slices"
	"strings"

	"treasury/api"
	"treasury/article"
)

// Articles returns the articles of a valid law, and nothing for another one.
func Articles(l api.Law) []api.Article {
	if Valid(l) != api.OK {
		return nil
	}
	all := []api.Article{{Kind: api.ArticleYears, Year: l.First, Number: l.Years}}
	for _, x := range l.Tree {
		all = append(all, api.Article{Kind: api.ArticleHeading, Code: x.Code, Name: x.Name})
	}
	for _, x := range l.Lines {
		all = append(all, api.Article{Kind: api.ArticleLine, Code: x.Code, Year: x.Year, Amount: x.Amount})
	}
	for _, x := range l.Ceilings {
		all = append(all, api.Article{Kind: api.ArticleCeiling, Code: x.Code, Year: x.Year, Amount: x.Amount})
	}
	for _, x := range l.Floors {
		all = append(all, api.Article{Kind: api.ArticleFloor, Code: x.Code, Year: x.Year, Amount: x.Amount})
	}
	for _, x := range l.Earmarks {
		all = append(all, api.Article{Kind: api.ArticleEarmark, Other: x.Source, Code: x.Code, Percent: x.Percent})
	}
	for _, x := range l.Conditions {
		all = append(all, ofCondition(x))
	}
	for _, x := range l.Rules {
		all = append(all, api.Article{Kind: api.ArticleRule, Number: x.Number, Code: x.From, Other: x.To, Percent: x.Percent})
	}
	for _, x := range l.Amendments {
		all = append(all, ofAmendment(x)...)
	}
	return all
}

// Of returns the law that articles make.
func Of(articles []api.Article) (api.Law, api.Errno) {
	if slices.ContainsFunc(articles, func(a api.Article) bool { return !article.Plain(a) }) {
		return api.Law{}, api.ErrInvalid
	}
	var l api.Law
	years := 0
	for _, a := range articles {
		if a.Kind == api.ArticleYears {
			years++
		}
		add(&l, a)
	}
	if years == 0 {
		return api.Law{}, api.ErrUnknown
	}
	if years > 1 {
		return api.Law{}, api.ErrDuplicate
	}
	arrange(&l)
	if e := Valid(l); e != api.OK {
		return api.Law{}, e
	}
	return l, api.OK
}

// Text returns a line of text for each article of a valid law, and a question mark for another one.
func Text(l api.Law) string {
	articles := Articles(l)
	// A valid law has the article of its years at least.
	if len(articles) == 0 {
		return "?"
	}
	var text strings.Builder
	for _, a := range articles {
		text.WriteString(article.Text(a) + "\n")
	}
	return text.String()
}

// Parse returns the law with a text; with an error, the number of the line that is none, or 0.
func Parse(text string) (api.Law, int, api.Errno) {
	if len(text) > api.MaxText {
		return api.Law{}, 0, api.ErrLimit
	}
	articles, bad := readLines(text)
	if bad > 0 {
		return api.Law{}, bad, api.ErrSyntax
	}
	l, e := Of(articles)
	return l, 0, e
}

// readLines returns the articles of the lines of a text, or the number of the first line that is none and is not passed over.
func readLines(text string) ([]api.Article, int) {
	var articles []api.Article
	number := 0
	for line := range strings.SplitSeq(text, "\n") {
		number++
		if line == "" || strings.HasPrefix(line, "#") {
			continue
		}
		a, e := article.Parse(line)
		if e != api.OK {
			return nil, number
		}
		articles = append(articles, a)
	}
	return articles, 0
}

// ofCondition returns the article of a valid condition, whose fields of the other kind are zero.
func ofCondition(x api.Condition) api.Article {
	kind := api.ArticleWait
	if x.Kind == api.ConditionReceived {
		kind = api.ArticleReach
	}
	return api.Article{Kind: kind, Code: x.Code, Year: x.Year, Amount: x.Amount, Day: x.Day, Other: x.Source, Least: x.Least}
}

// ofAmendment returns an article for each change of an amendment.
func ofAmendment(x api.Amendment) []api.Article {
	var all []api.Article
	for _, y := range x.Changes {
		all = append(all, api.Article{Kind: api.ArticleAmendment, Day: x.Day, Number: x.Number, What: y.Kind, Code: y.Code, Year: y.Year, Amount: y.Amount})
	}
	return all
}

// add puts a plain article at the end of the list of a law to which it belongs.
func add(l *api.Law, a api.Article) {
	switch a.Kind {
	case api.ArticleYears:
		l.First, l.Years = a.Year, a.Number
	case api.ArticleHeading:
		l.Tree = append(l.Tree, api.Heading{Code: a.Code, Name: a.Name})
	case api.ArticleLine:
		l.Lines = append(l.Lines, api.Line{Code: a.Code, Year: a.Year, Amount: a.Amount})
	case api.ArticleCeiling:
		l.Ceilings = append(l.Ceilings, api.Bound{Code: a.Code, Year: a.Year, Amount: a.Amount})
	case api.ArticleFloor:
		l.Floors = append(l.Floors, api.Bound{Code: a.Code, Year: a.Year, Amount: a.Amount})
	case api.ArticleEarmark:
		l.Earmarks = append(l.Earmarks, api.Earmark{Source: a.Other, Code: a.Code, Percent: a.Percent})
	case api.ArticleWait, api.ArticleReach:
		l.Conditions = append(l.Conditions, conditionOf(a))
	case api.ArticleRule:
		l.Rules = append(l.Rules, api.Rule{Number: a.Number, From: a.Code, To: a.Other, Percent: a.Percent})
	case api.ArticleAmendment:
		change := api.Change{Kind: a.What, Code: a.Code, Year: a.Year, Amount: a.Amount}
		l.Amendments = append(l.Amendments, api.Amendment{Day: a.Day, Number: a.Number, Changes: []api.Change{change}})
	}
}

// conditionOf returns the condition of a plain article, whose fields of the other kind are zero.
func conditionOf(a api.Article) api.Condition {
	kind := api.ConditionDay
	if a.Kind == api.ArticleReach {
		kind = api.ConditionReceived
	}
	return api.Condition{Kind: kind, Code: a.Code, Year: a.Year, Amount: a.Amount, Day: a.Day, Source: a.Other, Least: a.Least}
}

// arrange puts the lists of a law into their orders, but for conditions, and makes one amendment of those with the same day and number.
func arrange(l *api.Law) {
	slices.SortStableFunc(l.Tree, compareHeadings)
	slices.SortStableFunc(l.Lines, compareLines)
	slices.SortStableFunc(l.Ceilings, compareBounds)
	slices.SortStableFunc(l.Floors, compareBounds)
	slices.SortStableFunc(l.Earmarks, compareEarmarks)
	slices.SortStableFunc(l.Rules, compareWholeRules)
	slices.SortStableFunc(l.Amendments, compareAmendments)
	l.Amendments = merge(l.Amendments)
	for _, x := range l.Amendments {
		slices.SortStableFunc(x.Changes, compareChanges)
	}
}

// merge makes one amendment of those that stand side by side and have the same day and number.
func merge(l []api.Amendment) []api.Amendment {
	var merged []api.Amendment
	for _, x := range l {
		last := len(merged) - 1
		if last < 0 || compareAmendments(merged[last], x) != 0 {
			merged = append(merged, x)
			continue
		}
		merged[last].Changes = append(merged[last].Changes, x.Changes...)
	}
	return merged
}

// compareWholeRules compares rules by their numbers, and those of one number, of which the law is not valid, by all that tells which error it is: that does not depend on the order of articles.
func compareWholeRules(a, b api.Rule) int {
	return cmp.Or(compareRules(a, b), cmp.Compare(a.From, b.From), cmp.Compare(a.To, b.To))
}
