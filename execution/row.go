package execution

import (
	"strconv"
	"strings"

	"treasury/api"
	"treasury/classification"
)

// Total returns a row with the sums of the rows under a code, or of all rows.
func Total(rows []api.Row, top string) (api.Row, api.Errno) {
	for _, r := range rows {
		if r.Year != rows[0].Year {
			return api.Row{}, api.ErrYear
		}
	}
	total := api.Row{Code: top}
	for _, r := range rows {
		if top != "" && !classification.Under(r.Code, top) {
			continue
		}
		total.Year = r.Year
		numbers := amounts(&r)
		for i, sum := range amounts(&total) {
			// What is added is looked at first: the sum of two totals can not wrap.
			if !isTotal(*numbers[i]) || !isTotal(*sum+*numbers[i]) {
				return api.Row{}, api.ErrRange
			}
			*sum += *numbers[i]
		}
	}
	return total, api.OK
}

// Right returns the first error that applies to a row.
func Right(r api.Row) api.Errno {
	for _, n := range amounts(&r) {
		if !isTotal(*n) || *n < 0 && n != &r.Appropriation {
			return api.ErrRange
		}
	}
	switch {
	case r.Reserved+r.Committed > r.Out || r.Out > max(r.Appropriation, 0)+r.Shortfall:
		return api.ErrFunds
	case r.Verified > r.Committed || r.Ordered > r.Verified:
		return api.ErrOrder
	}
	return api.OK
}

// Free returns what is not out of an appropriation.
func Free(r api.Row) int { return r.Appropriation - r.Out }

// Text returns a line for each row.
func Text(rows []api.Row) string {
	var text strings.Builder
	for _, r := range rows {
		words := []string{r.Code, strconv.Itoa(r.Year)}
		for _, n := range amounts(&r) {
			words = append(words, strconv.Itoa(*n))
		}
		text.WriteString(strings.Join(words, " ") + "\n")
	}
	return text.String()
}

// amounts returns the numbers of a row from the line on, in their order.
func amounts(r *api.Row) []*int {
	return []*int{&r.Line, &r.Appropriation, &r.Out, &r.Reserved, &r.Committed, &r.Verified, &r.Ordered, &r.Shortfall}
}

func isTotal(n int) bool { return -api.MaxTotal <= n && n <= api.MaxTotal }
