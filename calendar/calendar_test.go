package calendar

import (
	"fmt"
	"math"
	"math/rand"
	"slices"
	"strings"
	"testing"

	"treasury/api"
)

// The greatest day is written out here as the document has it, so that a wrong limit shows.
const lastDay = 36000

// extremes are numbers at the ends of all ranges of the package, beyond them, at the ends of int, and where products with the days of a month or a year wrap.
func extremes() []int {
	l := []int{math.MinInt, math.MinInt + 1, math.MaxInt - 1, math.MaxInt}
	for _, end := range []int{0, 1, 5, 7, 12, 30, 100, 360, 1200, lastDay, -1200, -lastDay, 1 << 31, 1 << 32, 1 << 61, -1 << 61, 1 << 62, -1 << 62} {
		l = append(l, end-1, end, end+1)
	}
	for _, days := range []int{30, 360} {
		l = append(l, math.MaxInt/days, math.MaxInt/days+1, math.MinInt/days, math.MinInt/days-1)
	}
	return l
}

// noDays are numbers that are no days.
func noDays() []int {
	return slices.DeleteFunc(extremes(), isDay)
}

func isDay(n int) bool { return n >= 0 && n <= 36000 }

// counted is a day with its numbers.
type counted struct{ day, year, month, dayOfMonth int }

// allDays counts all days one by one, without dividing.
func allDays() []counted {
	var l []counted
	for year := 0; ; year++ {
		for month := 1; month <= 12; month++ {
			for d := 1; d <= 30; d++ {
				if len(l) > lastDay {
					return l
				}
				l = append(l, counted{len(l), year, month, d})
			}
		}
	}
}

// isBusiness goes by the document's words.
func isBusiness(day int) bool { return isDay(day) && day%7 != 5 && day%7 != 6 }

// textOf is the text of numbers, as the document describes it.
func textOf(c counted) string { return fmt.Sprintf("%d-%02d-%02d", c.year, c.month, c.dayOfMonth) }

// expect compares a number and an error with those that are wanted.
func expect(t *testing.T, got int, e api.Errno, want int, wantErr api.Errno, call string, arguments ...any) {
	t.Helper()
	if got != want || e != wantErr {
		t.Errorf("%s of %q: %d, error %d, not %d, error %d", call, fmt.Sprint(arguments...), got, e, want, wantErr)
	}
}

// P2.1

func TestValid(t *testing.T) {
	for n, want := range map[int]bool{0: true, 1: true, 365: true, 35999: true, 36000: true, -1: false, 36001: false, math.MinInt: false, math.MaxInt: false} {
		if got := Valid(n); got != want {
			t.Errorf("Valid of %d: %v", n, got)
		}
	}
}

func TestDay(t *testing.T) {
	for _, c := range []struct {
		year, month, day, want int
		e                      api.Errno
	}{
		{0, 1, 1, 0, api.OK},
		{0, 1, 30, 29, api.OK},
		{0, 2, 1, 30, api.OK},
		{0, 12, 30, 359, api.OK},
		{1, 1, 1, 360, api.OK},
		{1, 1, 6, 365, api.OK}, // the example
		{12, 7, 15, 4514, api.OK},
		{99, 12, 30, 35999, api.OK},
		{100, 1, 1, 36000, api.OK}, // the last day
		{100, 1, 2, 0, api.ErrRange},
		{100, 2, 1, 0, api.ErrRange},
		{101, 1, 1, 0, api.ErrRange},
		{-1, 12, 30, 0, api.ErrRange}, // the day before the first one
		{5, 0, 1, 0, api.ErrRange},
		{5, 13, 1, 0, api.ErrRange},
		{5, -1, 1, 0, api.ErrRange},
		{5, 1, 0, 0, api.ErrRange},
		{5, 1, 31, 0, api.ErrRange},
		{5, 1, -1, 0, api.ErrRange},
		// The numbers make a day, but one of them is out of its range.
		{-1, 13, 1, 0, api.ErrRange},
		{-1, 12, 31, 0, api.ErrRange},
		{0, 1, 31, 0, api.ErrRange},
		{101, -11, 1, 0, api.ErrRange},
		{0, 0, 31, 0, api.ErrRange},
		{100, 0, 31, 0, api.ErrRange},
		{100, 2, -29, 0, api.ErrRange},
		{0, -11, 361, 0, api.ErrRange},
		// Times 360, the year wraps to 0 or to a small number.
		{1 << 61, 1, 1, 0, api.ErrRange},
		{-1 << 61, 1, 1, 0, api.ErrRange},
		{1<<61 + 1, 1, 1, 0, api.ErrRange},
		{math.MinInt, 1, 1, 0, api.ErrRange},
		{math.MaxInt, 12, 30, 0, api.ErrRange},
		{0, 1<<62 + 1, 1, 0, api.ErrRange},
		{0, 1, math.MaxInt, 0, api.ErrRange},
		{0, math.MinInt, math.MinInt, 0, api.ErrRange},
	} {
		got, e := Day(c.year, c.month, c.day)
		expect(t, got, e, c.want, c.e, "Day", c.year, c.month, c.day)
	}
}

func TestDayExtremes(t *testing.T) {
	days := map[[3]int]int{}
	for _, c := range allDays() {
		days[[3]int{c.year, c.month, c.dayOfMonth}] = c.day
	}
	for _, year := range extremes() {
		for _, month := range extremes() {
			for _, day := range extremes() {
				want, there := days[[3]int{year, month, day}]
				e := api.OK
				if !there {
					e = api.ErrRange
				}
				got, err := Day(year, month, day)
				expect(t, got, err, want, e, "Day", year, month, day)
			}
		}
	}
}

func TestNumbersOfAllDays(t *testing.T) {
	l := allDays()
	if last := l[len(l)-1]; last != (counted{36000, 100, 1, 1}) {
		t.Fatalf("the last day is %v", last)
	}
	for _, c := range l {
		got, e := Day(c.year, c.month, c.dayOfMonth)
		expect(t, got, e, c.day, api.OK, "Day", c.year, c.month, c.dayOfMonth)
		if year, month, d := Date(c.day); year != c.year || month != c.month || d != c.dayOfMonth {
			t.Errorf("Date of %d: %d, %d, %d, not %v", c.day, year, month, d, c)
		}
		if got := Year(c.day); got != c.year {
			t.Errorf("Year of %d: %d", c.day, got)
		}
		if got := Month(c.day); got != 12*c.year+c.month-1 {
			t.Errorf("Month of %d: %d", c.day, got)
		}
		if !Valid(c.day) || Business(c.day) != isBusiness(c.day) {
			t.Errorf("Valid and Business of %d: %v, %v", c.day, Valid(c.day), Business(c.day))
		}
	}
}

func TestDateOfTheExample(t *testing.T) {
	if year, month, day := Date(365); year != 1 || month != 1 || day != 6 {
		t.Errorf("Date of 365: %d, %d, %d", year, month, day)
	}
	if Year(365) != 1 || Month(365) != 12 {
		t.Errorf("Year and Month of 365: %d, %d", Year(365), Month(365))
	}
}

func TestBusiness(t *testing.T) {
	for n, want := range map[int]bool{0: true, 4: true, 5: false, 6: false, 7: true, 11: true, 12: false, 13: false, 14: true, 35998: true, 35999: false, 36000: false} {
		if got := Business(n); got != want {
			t.Errorf("Business of %d: %v", n, got)
		}
	}
}

func TestNumbersThatAreNoDays(t *testing.T) {
	for _, n := range noDays() {
		if Valid(n) || Business(n) {
			t.Errorf("Valid and Business of %d: %v, %v", n, Valid(n), Business(n))
		}
		if year, month, day := Date(n); year != 0 || month != 0 || day != 0 {
			t.Errorf("Date of %d: %d, %d, %d", n, year, month, day)
		}
		if Year(n) != -1 || Month(n) != -1 {
			t.Errorf("Year and Month of %d: %d, %d", n, Year(n), Month(n))
		}
		if got := Text(n); got != "" {
			t.Errorf("Text of %d: %q", n, got)
		}
	}
}

// P2.2

func TestNext(t *testing.T) {
	for _, c := range []struct {
		day, want int
		e         api.Errno
	}{
		{0, 0, api.OK},
		{4, 4, api.OK},
		{5, 7, api.OK}, // the example
		{6, 7, api.OK},
		{7, 7, api.OK},
		{35992, 35994, api.OK},
		{35998, 35998, api.OK},
		// They are days, but the next business day would be 36001.
		{35999, 0, api.ErrRange},
		{36000, 0, api.ErrRange},
		{36001, 0, api.ErrRange},
		{-1, 0, api.ErrRange}, // the day after it is a business day
		{math.MinInt, 0, api.ErrRange},
		{math.MaxInt, 0, api.ErrRange},
	} {
		got, e := Next(c.day)
		expect(t, got, e, c.want, c.e, "Next", c.day)
	}
	for _, n := range noDays() {
		got, e := Next(n)
		expect(t, got, e, 0, api.ErrRange, "Next", n)
	}
}

func TestNextOfAllDays(t *testing.T) {
	next, e := 0, api.ErrRange
	for day := lastDay; day >= 0; day-- {
		if isBusiness(day) {
			next, e = day, api.OK
		}
		got, err := Next(day)
		expect(t, got, err, next, e, "Next", day)
		if err == api.OK && got-day > 2 {
			t.Errorf("Next of %d is %d days later", day, got-day)
		}
	}
}

func TestCount(t *testing.T) {
	for _, c := range []struct {
		from, to, want int
		e              api.Errno
	}{
		{0, 0, 0, api.OK},
		{0, 1, 1, api.OK}, // the first day counts, the second one does not
		{1, 2, 1, api.OK},
		{4, 5, 1, api.OK},
		{5, 6, 0, api.OK},
		{5, 7, 0, api.OK},
		{5, 8, 1, api.OK},
		{0, 5, 5, api.OK},
		{0, 7, 5, api.OK},
		{3, 10, 5, api.OK},
		{4, 11, 5, api.OK},
		{0, 35999, 25715, api.OK},
		{0, 36000, 25715, api.OK},
		{35998, 36000, 1, api.OK},
		{36000, 36000, 0, api.OK},
		{1, 0, 0, api.ErrOrder},
		{7, 5, 0, api.ErrOrder},
		{36000, 0, 0, api.ErrOrder},
		{-1, 5, 0, api.ErrRange},
		{5, 36001, 0, api.ErrRange},
		{-1, -1, 0, api.ErrRange},
		{36001, 36001, 0, api.ErrRange},
		// In these the second one comes first too, but it is named later.
		{5, -1, 0, api.ErrRange},
		{36001, 5, 0, api.ErrRange},
		{-1, -2, 0, api.ErrRange},
		{math.MaxInt, math.MinInt, 0, api.ErrRange},
		{math.MinInt, math.MaxInt, 0, api.ErrRange},
	} {
		got, e := Count(c.from, c.to)
		expect(t, got, e, c.want, c.e, "Count", c.from, c.to)
	}
}

func TestCountExtremes(t *testing.T) {
	for _, from := range extremes() {
		for _, to := range extremes() {
			want, e := 0, api.OK
			if !isDay(from) || !isDay(to) {
				e = api.ErrRange
			} else if to < from {
				e = api.ErrOrder
			}
			for day := from; e == api.OK && day < to; day++ {
				if isBusiness(day) {
					want++
				}
			}
			got, err := Count(from, to)
			expect(t, got, err, want, e, "Count", from, to)
		}
	}
}

func TestCountOfManySpans(t *testing.T) {
	// All spans of some weeks, from the days of two weeks on, and from the last ones.
	for _, first := range []int{0, 1000, lastDay - 13} {
		for from := first; from < first+14; from++ {
			want := 0
			for to := from; to <= min(from+40, lastDay); to++ {
				got, e := Count(from, to)
				expect(t, got, e, want, api.OK, "Count", from, to)
				if isBusiness(to) {
					want++
				}
			}
		}
	}
}

func TestMonths(t *testing.T) {
	for _, c := range []struct {
		day, n, want int
		e            api.Errno
	}{
		{365, 0, 365, api.OK},
		{365, 1, 395, api.OK},
		{365, -1, 335, api.OK},
		{29, 1, 59, api.OK},
		{0, 12, 360, api.OK},
		{0, 0, 0, api.OK},
		{0, 1200, 36000, api.OK},
		{36000, -1200, 0, api.OK},
		{36000, 0, 36000, api.OK},
		{29, 1199, 35999, api.OK},
		{35999, -1199, 29, api.OK},
		{1, 1200, 0, api.ErrRange},
		{0, 1201, 0, api.ErrRange},
		{0, -1, 0, api.ErrRange},
		{29, -1, 0, api.ErrRange},
		{36000, 1, 0, api.ErrRange},
		{35971, 1, 0, api.ErrRange},
		{35970, 1, 36000, api.OK},
		{0, lastDay, 0, api.ErrRange},
		{lastDay, -lastDay, 0, api.ErrRange},
		{0, lastDay + 1, 0, api.ErrRange},
		// The result would be a day, but this is none.
		{-1, 1, 0, api.ErrRange},
		{36001, -1, 0, api.ErrRange},
		// Times 30, these wrap to 0 or to a small number.
		{5, math.MinInt, 0, api.ErrRange},
		{5, math.MinInt + 1, 0, api.ErrRange},
		{60, math.MaxInt, 0, api.ErrRange},
		{math.MaxInt, 1, 0, api.ErrRange},
		{math.MinInt, -1, 0, api.ErrRange},
	} {
		got, e := Months(c.day, c.n)
		expect(t, got, e, c.want, c.e, "Months", c.day, c.n)
	}
}

// laterBy goes month by month, by the numbers of the day.
func laterBy(days map[[3]int]int, day, n int) (int, api.Errno) {
	if !isDay(day) || n < -36000 || n > 36000 {
		return 0, api.ErrRange
	}
	year, month, d := Date(day)
	for ; n > 0; n-- {
		if month++; month > 12 {
			year, month = year+1, 1
		}
	}
	for ; n < 0; n++ {
		if month--; month < 1 {
			year, month = year-1, 12
		}
	}
	if later, there := days[[3]int{year, month, d}]; there {
		return later, api.OK
	}
	return 0, api.ErrRange
}

func TestMonthsExtremes(t *testing.T) {
	days := map[[3]int]int{}
	for _, c := range allDays() {
		days[[3]int{c.year, c.month, c.dayOfMonth}] = c.day
	}
	for _, day := range extremes() {
		for _, n := range extremes() {
			want, e := laterBy(days, day, n)
			got, err := Months(day, n)
			expect(t, got, err, want, e, "Months", day, n)
		}
	}
	r := rand.New(rand.NewSource(3))
	for range 20000 {
		day, n := r.Intn(lastDay+1), r.Intn(2600)-1300
		want, e := laterBy(days, day, n)
		got, err := Months(day, n)
		expect(t, got, err, want, e, "Months", day, n)
	}
}

func TestMonthsAddUp(t *testing.T) {
	r := rand.New(rand.NewSource(4))
	for range 20000 {
		day, n, m := r.Intn(lastDay+1), r.Intn(1300)-650, r.Intn(1300)-650
		first, e := Months(day, n)
		if e != api.OK {
			continue
		}
		got, e := Months(first, m)
		want, wantErr := Months(day, n+m)
		expect(t, got, e, want, wantErr, "Months of Months", day, n, m)
	}
}

// P2.3

func TestText(t *testing.T) {
	for day, want := range map[int]string{
		0:     "0-01-01",
		8:     "0-01-09",
		9:     "0-01-10",
		29:    "0-01-30",
		30:    "0-02-01",
		270:   "0-10-01",
		359:   "0-12-30",
		365:   "1-01-06", // the example
		3600:  "10-01-01",
		35999: "99-12-30",
		36000: "100-01-01",
		-1:    "",
		36001: "",
	} {
		if got := Text(day); got != want {
			t.Errorf("Text of %d: %q, not %q", day, got, want)
		}
		if want != "" {
			got, e := Parse(want)
			expect(t, got, e, day, api.OK, "Parse", want)
		}
	}
}

func TestTextsOfAllDays(t *testing.T) {
	for _, c := range allDays() {
		text := Text(c.day)
		if text != textOf(c) {
			t.Errorf("Text of %d: %q", c.day, text)
		}
		got, e := Parse(text)
		expect(t, got, e, c.day, api.OK, "Parse", text)
	}
}

func TestParseWhatIsNoText(t *testing.T) {
	for _, text := range []string{
		"", "-", "--", "---", "1", "1-01", "1-01-", "-01-06", "1--06", "1-01-06-", "-1-01-06", "1-01-06-01", "1-01-06-01-01",
		// The numbers make a day, but the text is another one.
		"1-1-06", "1-01-6", "01-01-06", "001-01-06", "1-001-06", "1-01-006", "00-01-01", "-0-01-01", "+1-01-06", "1-+1-06", "1-01-+6", "0x1-01-06", "1_0-01-06", "1e0-01-06",
		" 1-01-06", "1-01-06 ", "1 -01-06", "1- 1-06", "1-01- 6", "1-01-06\n", "1-01-06\x00", "1.-01-06", "1/01/06", "1-01.06", "10106",
		// Their numbers make no day.
		"1-00-06", "1-13-06", "1-01-00", "1-01-31", "1-99-99", "100-01-02", "100-02-01", "101-01-01", "999-01-01", "1-01--6", "1--1-06",
		// Other signs than a minus sign, and other digits.
		"1\u201301\u201306", "1\u221201\u221206", "\u0661-01-06", "1-\uff10\uff11-06", "1-01-06\xff", "\xff\xfe\xfd",
		"one-01-06", "1-a1-06", "1-01-b6", "x", "1-01-06x",
		// Numbers that no int holds, or that wrap to a day.
		"18446744073709551617-01-06", "9223372036854775807-01-06", "-9223372036854775808-01-06", "2305843009213693952-01-01", "1-18446744073709551617-06", "1-01-18446744073709551622",
		"99999999999999999999999999999999-01-01",
		strings.Repeat("0", 1000) + "-01-01", strings.Repeat("-", 1000), strings.Repeat("1-", 1000), strings.Repeat("9", 100000),
	} {
		got, e := Parse(text)
		expect(t, got, e, 0, api.ErrSyntax, "Parse", text)
	}
}

// texts are the texts of all days.
func texts() map[string]int {
	m := map[string]int{}
	for _, c := range allDays() {
		m[textOf(c)] = c.day
	}
	return m
}

// checkParse compares Parse with the texts of all days.
func checkParse(t *testing.T, all map[string]int, text string) {
	t.Helper()
	want, there := all[text]
	e := api.OK
	if !there {
		e = api.ErrSyntax
	}
	got, err := Parse(text)
	expect(t, got, err, want, e, "Parse", text)
}

func TestParseChangedTexts(t *testing.T) {
	all := texts()
	const others = "0123459+- .x\x00\xff"
	for _, day := range []int{0, 8, 29, 270, 359, 365, 3600, 3999, 35999, lastDay} {
		text := Text(day)
		for i := range len(text) + 1 {
			checkParse(t, all, text[:i])
			checkParse(t, all, text[i:])
			for _, b := range []byte(others) {
				checkParse(t, all, text[:i]+string([]byte{b})+text[i:])
				if i < len(text) {
					checkParse(t, all, text[:i]+string([]byte{b})+text[i+1:])
				}
			}
			if i < len(text) {
				checkParse(t, all, text[:i]+text[i+1:])
			}
		}
	}
}

func TestParseManyNumbers(t *testing.T) {
	all := texts()
	for year := -1; year <= 102; year++ {
		for month := -1; month <= 14; month++ {
			for day := -1; day <= 32; day++ {
				checkParse(t, all, fmt.Sprintf("%d-%d-%d", year, month, day))
				checkParse(t, all, fmt.Sprintf("%d-%02d-%02d", year, month, day))
				checkParse(t, all, fmt.Sprintf("%02d-%02d-%02d", year, month, day))
			}
		}
	}
}
