package constraint

import (
	"fmt"
	"math"
	"math/rand"
	"slices"
	"strings"
	"testing"

	"treasury/api"
	"treasury/budget"
)

// badLaws are laws that are not valid, for errors of several steps of budget.Valid.
func badLaws(t *testing.T) map[api.Errno]api.Law {
	change := func(change func(l *api.Law)) api.Law {
		l := lawOf(t, "line 1 12 500; line 2.1 13 1; ceiling 1 all 2000; floor 2 13 1; earmark 9 1 80; earmark 9 2.1 20; amend 12-01-11 1 line 1 12 600")
		change(&l)
		return l
	}
	return map[api.Errno]api.Law{
		api.ErrRange:   {},
		api.ErrUnknown: change(func(l *api.Law) { l.Tree[5].Code = "3.1" }),
		api.ErrLimit:   change(func(l *api.Law) { l.Lines = make([]api.Line, 121) }),
		api.ErrCode:    change(func(l *api.Law) { l.Lines[0].Code = "2" }),
		api.ErrYear:    change(func(l *api.Law) { l.Ceilings[0].Year = -2 }),
		api.ErrShare:   change(func(l *api.Law) { l.Earmarks[0].Percent = 81 }),
		api.ErrInvalid: change(func(l *api.Law) { l.Amendments[0].Changes = nil }),
		api.ErrOrder:   change(func(l *api.Law) { slices.Reverse(l.Lines) }),
	}
}

// P7.1

func TestCheck(t *testing.T) {
	l := lawOf(t, "line 1 12 500")
	for _, c := range []struct {
		name string
		r    []api.Range
		want api.Errno
	}{
		{"no ranges", nil, api.OK},
		{"no ranges in a list", []api.Range{}, api.OK},
		{"one range", []api.Range{rangeOf("1", 12, 0, 1)}, api.OK},
		{"ranges of one value", []api.Range{rangeOf("1", 12, 0, 0), rangeOf("1", 13, 7, 7)}, api.OK},
		{"the ends of amounts", []api.Range{rangeOf("1", 12, 0, mostAmount), rangeOf("2.1", 13, mostAmount, mostAmount)}, api.OK},
		{"in the order of numbers", []api.Range{rangeOf("2.9", 12, 0, 1), rangeOf("2.10", 12, 0, 1)}, api.OK},
		{"in the order of codes, then of years", []api.Range{rangeOf("1", 13, 0, 1), rangeOf("2.1", 12, 0, 1)}, api.OK},
		{"a code with others under it", []api.Range{rangeOf("2", 12, 0, 1)}, api.ErrCode},
		{"a code that is not there", []api.Range{rangeOf("3", 12, 0, 1)}, api.ErrCode},
		{"no code", []api.Range{rangeOf("", 12, 0, 1)}, api.ErrCode},
		{"a code with a zero in front", []api.Range{rangeOf("01", 12, 0, 1)}, api.ErrCode},
		{"the year before", []api.Range{rangeOf("1", 11, 0, 1)}, api.ErrYear},
		{"the year behind", []api.Range{rangeOf("1", 14, 0, 1)}, api.ErrYear},
		{"all years", []api.Range{rangeOf("1", -1, 0, 1)}, api.ErrYear},
		{"least below 0", []api.Range{rangeOf("1", 12, -1, 1)}, api.ErrRange},
		{"both below 0", []api.Range{rangeOf("1", 12, -2, -1)}, api.ErrRange},
		{"most too large", []api.Range{rangeOf("1", 12, 0, mostAmount+1)}, api.ErrRange},
		{"both too large", []api.Range{rangeOf("1", 12, mostAmount+1, mostAmount+1)}, api.ErrRange},
		{"least above most", []api.Range{rangeOf("1", 12, 2, 1)}, api.ErrRange},
		{"the ends of numbers", []api.Range{rangeOf("1", 12, math.MinInt, math.MaxInt)}, api.ErrRange},
		{"twice", []api.Range{rangeOf("1", 12, 0, 1), rangeOf("1", 12, 0, 1)}, api.ErrOrder},
		{"years out of order", []api.Range{rangeOf("1", 13, 0, 1), rangeOf("1", 12, 0, 1)}, api.ErrOrder},
		{"codes out of order", []api.Range{rangeOf("2.10", 12, 0, 1), rangeOf("2.9", 13, 0, 1)}, api.ErrOrder},
		{"the code ahead of the year", []api.Range{rangeOf("2", 11, 2, 1)}, api.ErrCode},
		{"the year ahead of the amounts", []api.Range{rangeOf("1", 11, 2, 1)}, api.ErrYear},
		{"the amounts ahead of the order", []api.Range{rangeOf("9", 12, 0, 1), rangeOf("1", 12, 2, 1)}, api.ErrRange},
		{"the first range ahead of the second one", []api.Range{rangeOf("1", 12, 2, 1), rangeOf("", 12, 0, 1)}, api.ErrRange},
		{"the order of the second one ahead of the third one", []api.Range{rangeOf("9", 12, 0, 1), rangeOf("1", 12, 0, 1), rangeOf("", 12, 0, 1)}, api.ErrOrder},
		{"121 ranges that are none", make([]api.Range, 121), api.ErrLimit},
		{"120 ranges that are none", make([]api.Range, 120), api.ErrCode},
	} {
		if got := Check(l, c.r); got != c.want {
			t.Errorf("%s: error %d, not %d", c.name, got, c.want)
		}
		n, e := Net(l, c.r)
		if e != c.want || e != api.OK && (n.Places != 0 || n.Arcs != nil) {
			t.Errorf("%s: network %v, error %d, not %d", c.name, n, e, c.want)
		}
	}
}

func TestCheckOfBadLaws(t *testing.T) {
	for want, l := range badLaws(t) {
		for _, r := range [][]api.Range{nil, {rangeOf("", 0, 1, 0)}, make([]api.Range, 121)} {
			n, e := Net(l, r)
			if got := Check(l, r); got != want || e != want || (n.Places != 0 || n.Arcs != nil) {
				t.Errorf("errors %d and %d, network %v, not %d", got, e, n, want)
			}
		}
	}
}

func TestMostRanges(t *testing.T) {
	text := "years 50 4\n"
	for i := 1; i <= 31; i++ {
		text += fmt.Sprintf("heading %d x\n", i)
	}
	l := parsed(t, text)
	var r []api.Range
	for i := range 121 {
		r = append(r, api.Range{Code: fmt.Sprint(1 + i/4), Year: 50 + i%4, Most: i})
	}
	if e := Check(l, r[:120]); e != api.OK {
		t.Errorf("120 ranges: error %d", e)
	}
	if e := Check(l, r); e != api.ErrLimit {
		t.Errorf("121 ranges: error %d", e)
	}
}

// arcsText writes arcs as "from to low high", separated by semicolons; a high of MaxTotal is a star.
func arcsText(arcs []api.Arc) string {
	var words []string
	for _, a := range arcs {
		high := "*"
		if a.High != mostTotal {
			high = fmt.Sprint(a.High)
		}
		words = append(words, fmt.Sprintf("%d %d %d %s", a.From, a.To, a.Low, high))
	}
	return strings.Join(words, "; ")
}

func TestNet(t *testing.T) {
	for _, c := range []struct {
		name, law string
		r         []api.Range
		places    int
		arcs      string
	}{
		{"without codes", "years 12 4", nil, 1, ""},
		{"one code", "years 0 1\nheading 1 a", nil, 5, "0 1 0 *; 1 2 0 *; 2 3 0 0; 3 4 0 *; 4 0 0 *"},
		{
			"two leaves", "years 12 1\nheading 1 a\nheading 2 b\nline 1 12 500\nline 2 12 70", nil,
			9, "0 1 0 *; 1 2 0 *; 0 3 0 *; 3 4 0 *; 2 5 500 500; 4 7 70 70; 5 6 0 *; 6 0 0 *; 7 8 0 *; 8 0 0 *",
		},
		{
			"bounds of a year", "years 12 1\nheading 1 a\nheading 2 b\nceiling 1 12 9\nceiling 2 12 0\nfloor 2 12 8", nil,
			9, "0 1 0 9; 1 2 0 *; 0 3 0 0; 3 4 8 *; 2 5 0 0; 4 7 0 0; 5 6 0 *; 6 0 0 *; 7 8 0 *; 8 0 0 *",
		},
		{
			"bounds of all years", "years 12 1\nheading 1 a\nheading 2 b\nceiling 1 all 9\nceiling 2 all 0\nfloor 2 all 8", nil,
			9, "0 1 0 *; 1 2 0 *; 0 3 0 *; 3 4 0 *; 2 5 0 0; 4 7 0 0; 5 6 0 *; 6 0 0 9; 7 8 8 *; 8 0 0 0",
		},
		{
			"a floor above the ceiling", "years 12 1\nheading 1 a\nline 1 12 7\nceiling 1 12 5\nfloor 1 12 6\nceiling 1 all 5\nfloor 1 all 6", nil,
			5, "0 1 0 5; 1 2 6 *; 2 3 7 7; 3 4 6 *; 4 0 0 5",
		},
		{
			"ranges", "years 12 2\nheading 1 a\nheading 2 b\nline 1 13 7\nline 2 12 9", []api.Range{rangeOf("1", 12, 1, 4), rangeOf("1", 13, 0, mostAmount)},
			13, "0 1 0 *; 1 2 0 *; 0 3 0 *; 3 4 0 *; 0 5 0 *; 5 6 0 *; 0 7 0 *; 7 8 0 *; 2 9 1 4; 6 9 0 1000000000000; 4 11 9 9; 8 11 0 0; 9 10 0 *; 10 0 0 *; 11 12 0 *; 12 0 0 *",
		},
		{
			"codes under others", "years 12 2\nheading 1 a\nheading 1.1 b\nheading 1.1.1 c\nheading 1.2 d\nceiling 1.1 13 5\nceiling 1.1.1 all 6\nfloor 1 all 1\nfloor 1.2 12 2\nline 1.2 13 3", nil,
			25, "0 1 0 *; 1 2 0 *; 2 3 0 *; 3 4 0 *; 4 5 0 *; 5 6 0 *; 2 7 0 *; 7 8 2 *; " +
				"0 9 0 *; 9 10 0 *; 10 11 0 5; 11 12 0 *; 12 13 0 *; 13 14 0 *; 10 15 0 *; 15 16 0 *; " +
				"6 21 0 0; 14 21 0 0; 8 23 0 0; 16 23 3 3; " +
				"17 18 1 *; 18 0 0 *; 19 20 0 *; 20 17 0 *; 21 22 0 *; 22 19 0 6; 23 24 0 *; 24 17 0 *",
		},
	} {
		n, e := Net(parsed(t, c.law), c.r)
		if got := arcsText(n.Arcs); n.Places != c.places || got != c.arcs || e != api.OK {
			t.Errorf("%s: error %d, %d places, not %d, arcs\n%s, not\n%s", c.name, e, n.Places, c.places, got, c.arcs)
		}
	}
}

func TestNetOfRandomLaws(t *testing.T) {
	r := rand.New(rand.NewSource(7))
	for range 400 {
		l := randomLaw(r, []int{3, mostAmount / 2}[r.Intn(2)])
		ranges := randomRanges(r, l, mostAmount)
		n, e := Net(l, ranges)
		if want := netOf(l, ranges); e != api.OK || n.Places != want.Places || !slices.Equal(n.Arcs, want.Arcs) {
			t.Fatalf("network of\n%s with %v: error %d, %v, not %v", budget.Text(l), ranges, e, n, want)
		}
	}
}

// P7.2

func TestFlow(t *testing.T) {
	l := parsed(t, "years 12 2\nheading 1 a\nheading 1.1 b\nheading 1.2 c\nheading 2 d\nline 1.1 12 999")
	for _, c := range []struct {
		name  string
		lines []api.Line
		want  string
	}{
		{"no lines", nil, "0 0 0 0 0 0 0 0 0 0 0 0 0 0 0 0 0 0 0 0 0 0 0 0 0 0 0 0 0 0"},
		{"one line", []api.Line{lineOf("1.1", 13, 5)}, "0 0 0 0 0 0 0 0 5 5 5 5 0 0 0 0 0 5 0 0 0 0 5 5 5 5 0 0 0 0"},
		{"all lines", []api.Line{lineOf("1.1", 12, 1), lineOf("1.1", 13, 2), lineOf("1.2", 12, 4), lineOf("1.2", 13, 8), lineOf("2", 12, 16), lineOf("2", 13, 32)}, "5 5 1 1 4 4 16 16 10 10 2 2 8 8 32 32 1 2 4 8 16 32 15 15 3 3 12 12 48 48"},
		{"in any order, one twice, one of 0", []api.Line{lineOf("2", 13, 32), lineOf("1.2", 12, 3), lineOf("1.1", 12, 0), lineOf("1.2", 12, 1)}, "4 4 0 0 4 4 0 0 0 0 0 0 0 0 32 32 0 0 4 0 0 32 4 4 0 0 4 4 32 32"},
	} {
		flow, e := Flow(l, c.lines)
		if got := strings.Trim(fmt.Sprint(flow), "[]"); got != c.want || e != api.OK {
			t.Errorf("%s: %s, error %d, not %s", c.name, got, e, c.want)
		}
	}
	if flow, e := Flow(parsed(t, "years 12 4"), nil); len(flow) != 0 || e != api.OK {
		t.Errorf("without codes: %v, error %d", flow, e)
	}
}

func TestFlowErrors(t *testing.T) {
	l := lawOf(t, "line 1 12 500")
	much := slices.Repeat([]api.Line{lineOf("2.1", 12, mostAmount), lineOf("2.9", 13, mostAmount)}, 500)
	for _, c := range []struct {
		name  string
		lines []api.Line
		want  api.Errno
	}{
		{"a code with others under it", []api.Line{lineOf("2", 12, 1)}, api.ErrCode},
		{"a code that is not there", []api.Line{lineOf("2.2", 12, 1)}, api.ErrCode},
		{"no code", []api.Line{lineOf("", 12, 0)}, api.ErrCode},
		{"the year before", []api.Line{lineOf("1", 11, 1)}, api.ErrYear},
		{"the year behind", []api.Line{lineOf("1", 14, 1)}, api.ErrYear},
		{"all years", []api.Line{lineOf("1", -1, 1)}, api.ErrYear},
		{"below 0", []api.Line{lineOf("1", 12, -1)}, api.ErrRange},
		{"too much", []api.Line{lineOf("1", 12, mostAmount+1)}, api.ErrRange},
		{"the ends of numbers", []api.Line{lineOf("1", 12, math.MaxInt), lineOf("1", 12, math.MinInt)}, api.ErrRange},
		{"the code ahead of the year", []api.Line{lineOf("2", 11, -1)}, api.ErrCode},
		{"the year ahead of the amount", []api.Line{lineOf("1", 11, -1)}, api.ErrYear},
		{"the first line ahead of the second one", []api.Line{lineOf("1", 12, -1), lineOf("", 12, 1)}, api.ErrRange},
		{"all that a sum can have", much, api.OK},
		{"as much under another code", slices.Concat(much, []api.Line{lineOf("1", 12, mostAmount), lineOf("9", 13, mostAmount)}), api.OK},
		{"more than a sum can have", slices.Concat(much, []api.Line{lineOf("2.10", 12, 1)}), api.ErrRange},
		{"more than a leaf can have", append(slices.Repeat([]api.Line{lineOf("1", 12, mostAmount)}, 1000), api.Line{Code: "1", Year: 12, Amount: 1}), api.ErrRange},
		{"lines ahead of sums", slices.Concat(much, much, []api.Line{lineOf("2", 12, 1)}), api.ErrCode},
	} {
		flow, e := Flow(l, c.lines)
		if e != c.want || e != api.OK && flow != nil {
			t.Errorf("%s: error %d, not %d", c.name, e, c.want)
		}
	}
	for want, l := range badLaws(t) {
		if flow, e := Flow(l, []api.Line{{}}); flow != nil || e != want {
			t.Errorf("flow %v, error %d, not %d", flow, e, want)
		}
	}
}

func TestLines(t *testing.T) {
	l := parsed(t, "years 12 2\nheading 1 a\nheading 1.9 b\nheading 1.10 c\nline 1.9 12 999")
	// Twelve arcs of years, then those of 1.9 in 12 and 13, and of 1.10 in 12 and 13, then six of all years.
	flowWith := func(other int, lines ...int) []int {
		return slices.Concat(slices.Repeat([]int{other}, 12), lines, slices.Repeat([]int{other}, 6))
	}
	for _, c := range []struct {
		name string
		flow []int
		want []api.Line
		e    api.Errno
	}{
		{"nothing flows", flowWith(0, 0, 0, 0, 0), nil, api.OK},
		{"all lines", flowWith(0, 1, 2, 3, mostAmount), []api.Line{lineOf("1.9", 12, 1), lineOf("1.9", 13, 2), lineOf("1.10", 12, 3), lineOf("1.10", 13, mostAmount)}, api.OK},
		{"some lines", flowWith(0, 0, 2, 0, 4), []api.Line{lineOf("1.9", 13, 2), lineOf("1.10", 13, 4)}, api.OK},
		{"others do not matter", flowWith(-5, 1, 0, 0, 0), []api.Line{lineOf("1.9", 12, 1)}, api.OK},
		{"others do not matter", flowWith(math.MaxInt, 0, 0, 1, 0), []api.Line{lineOf("1.10", 12, 1)}, api.OK},
		{"below 0", flowWith(0, 1, 2, 3, -1), nil, api.ErrRange},
		{"too much", flowWith(0, mostAmount+1, 2, 3, 4), nil, api.ErrRange},
		{"the ends of numbers", flowWith(0, 1, math.MinInt, 3, 4), nil, api.ErrRange},
		{"no flow", nil, nil, api.ErrInvalid},
		{"too short", flowWith(0, 1, 2, 3), nil, api.ErrInvalid},
		{"too long", flowWith(0, 1, 2, 3, 4, 5), nil, api.ErrInvalid},
		{"too long ahead of the numbers", flowWith(0, -1, 2, 3, 4, 5), nil, api.ErrInvalid},
	} {
		got, e := Lines(l, c.flow)
		if !slices.Equal(got, c.want) || e != c.e {
			t.Errorf("%s: %v, error %d, not %v, error %d", c.name, got, e, c.want, c.e)
		}
	}
	if lines, e := Lines(parsed(t, "years 12 4"), nil); len(lines) != 0 || e != api.OK {
		t.Errorf("without codes: %v, error %d", lines, e)
	}
	for want, l := range badLaws(t) {
		if lines, e := Lines(l, []int{-1}); lines != nil || e != want {
			t.Errorf("lines %v, error %d, not %d", lines, e, want)
		}
	}
}

func TestFlowOfRandomLines(t *testing.T) {
	r := rand.New(rand.NewSource(8))
	for range 300 {
		l := randomLaw(r, mostAmount)
		lines := slices.Clone(l.Lines)
		flow, e := Flow(l, lines)
		if want := flowOf(l, lines); e != api.OK || !slices.Equal(flow, want) {
			t.Fatalf("flow of\n%s: error %d, %v, not %v", budget.Text(l), e, flow, want)
		}
		back, e := Lines(l, flow)
		lines = slices.DeleteFunc(lines, func(x api.Line) bool { return x.Amount == 0 })
		if e != api.OK || !slices.Equal(back, lines) {
			t.Fatalf("lines %v came back as %v, error %d", lines, back, e)
		}
		r.Shuffle(len(lines), func(i, j int) { lines[i], lines[j] = lines[j], lines[i] })
		if other, e := Flow(l, lines); e != api.OK || !slices.Equal(other, flow) {
			t.Fatalf("flow of shuffled lines of\n%s: error %d, %v, not %v", budget.Text(l), e, other, flow)
		}
	}
}

// P7.3

func TestMeets(t *testing.T) {
	arcs := func(numbers ...int) api.Net {
		n := api.Net{Places: numbers[0]}
		for x := range slices.Chunk(numbers[1:], 4) {
			n.Arcs = append(n.Arcs, api.Arc{From: x[0], To: x[1], Low: x[2], High: x[3]})
		}
		return n
	}
	for _, c := range []struct {
		name string
		net  api.Net
		flow []int
		want bool
	}{
		{"nothing", api.Net{}, nil, true},
		{"places alone", arcs(3), []int{}, true},
		{"a circle", arcs(3, 0, 1, 0, 9, 1, 2, 0, 9, 2, 0, 0, 9), []int{4, 4, 4}, true},
		{"a circle of nothing", arcs(3, 0, 1, 0, 9, 1, 2, 0, 9, 2, 0, 0, 9), []int{0, 0, 0}, true},
		{"the ends of arcs", arcs(2, 0, 1, 3, 5, 1, 0, 5, 7), []int{5, 5}, true},
		{"the ends of totals", arcs(2, 0, 1, mostTotal, mostTotal, 1, 0, 0, mostTotal), []int{mostTotal, mostTotal}, true},
		{"two into one", arcs(3, 0, 2, 0, 9, 1, 2, 0, 9, 2, 0, 0, 9, 2, 1, 0, 9), []int{4, 5, 4, 5}, true},
		{"two into one, unlike", arcs(3, 0, 2, 0, 9, 1, 2, 0, 9, 2, 0, 0, 9, 2, 1, 0, 9), []int{4, 5, 5, 4}, false},
		{"from a place to itself", arcs(1, 0, 0, 2, 9), []int{3}, true},
		{"something stays", arcs(3, 0, 1, 0, 9, 1, 2, 0, 9, 2, 0, 0, 9), []int{4, 3, 4}, false},
		{"something flows out of the place 0", arcs(2, 0, 1, 0, 9), []int{1}, false},
		{"below Low", arcs(2, 0, 1, 3, 5, 1, 0, 0, 7), []int{2, 2}, false},
		{"above High", arcs(2, 0, 1, 3, 5, 1, 0, 0, 7), []int{6, 6}, false},
		{"Low above High", arcs(1, 0, 0, 5, 4), []int{5}, false},
		{"Low above High", arcs(1, 0, 0, 5, 4), []int{4}, false},
		{"too short", arcs(2, 0, 1, 0, 5, 1, 0, 0, 5), []int{0}, false},
		{"too long", arcs(2, 0, 1, 0, 5, 1, 0, 0, 5), []int{0, 0, 0}, false},
		{"no flow", arcs(2, 0, 1, 0, 5), nil, false},
		{"from a place below 0", arcs(2, -1, 1, 0, 5), []int{0}, false},
		{"from a place too large", arcs(2, 2, 1, 0, 5), []int{0}, false},
		{"to a place below 0", arcs(2, 0, -1, 0, 5), []int{0}, false},
		{"to a place too large", arcs(2, 0, 2, 0, 5), []int{0}, false},
		{"to itself, but no place", arcs(2, 2, 2, 0, 5), []int{0}, false},
		{"no places", arcs(0, 0, 0, 0, 5), []int{0}, false},
		{"places below 0", arcs(-5, 0, 0, 0, 5), []int{0}, false},
		{"the ends of places", arcs(math.MaxInt, 0, math.MaxInt-1, 0, 5, math.MaxInt-1, 0, 0, 5), []int{5, 5}, true},
		{"the ends of numbers as places", arcs(math.MaxInt, math.MaxInt, math.MinInt, 0, 5), []int{0}, false},
		{"Low below 0", arcs(1, 0, 0, -1, 5), []int{0}, false},
		{"a number below 0", arcs(1, 0, 0, -1, 5), []int{-1}, false},
		{"High below 0", arcs(1, 0, 0, 0, -1), []int{0}, false},
		{"Low too large", arcs(1, 0, 0, mostTotal+1, mostTotal+1), []int{mostTotal + 1}, false},
		{"High too large", arcs(1, 0, 0, 0, mostTotal+1), []int{0}, false},
		{"a number too large", arcs(1, 0, 0, 0, mostTotal), []int{mostTotal + 1}, false},
		{"the ends of numbers", arcs(1, 0, 0, math.MinInt, math.MaxInt), []int{0}, false},
	} {
		if got := Meets(c.net, c.flow); got != c.want {
			t.Errorf("%s: %v", c.name, got)
		}
	}
}

func TestMeetsWithSumsThatAnIntCannotHold(t *testing.T) {
	// 2^64 in parts of at most MaxTotal is nothing to a number that wraps.
	var n api.Net
	var flow []int
	n.Places = 2
	for left := uint64(math.MaxUint64); left > 0; {
		part := min(left, mostTotal)
		left -= part
		n.Arcs, flow = append(n.Arcs, api.Arc{From: 0, To: 1, High: mostTotal}), append(flow, int(part))
	}
	n.Arcs, flow = append(n.Arcs, api.Arc{From: 0, To: 1, High: 1}), append(flow, 1)
	if Meets(n, flow) {
		t.Error("2^64 flows in, and nothing flows out")
	}
	for _, a := range slices.Clone(n.Arcs) {
		n.Arcs = append(n.Arcs, api.Arc{From: 1, To: 0, High: a.High})
	}
	flow = slices.Concat(flow, flow)
	if !Meets(n, flow) {
		t.Error("2^64 flows in and out")
	}
	flow[len(flow)-1] = 0
	if Meets(n, flow) {
		t.Error("2^64 flows in, and one less flows out")
	}
}

func TestMeetsOfChangedFlows(t *testing.T) {
	r := rand.New(rand.NewSource(9))
	for range 300 {
		l := randomLaw(r, 3)
		l.Ceilings, l.Floors = nil, nil
		net, _ := Net(l, nil)
		flow, _ := Flow(l, l.Lines)
		if !Meets(net, flow) {
			t.Fatalf("lines without bounds do not meet the network of\n%s", budget.Text(l))
		}
		if len(flow) == 0 {
			continue
		}
		i := r.Intn(len(flow))
		flow[i]++
		if Meets(net, flow) {
			t.Fatalf("1 more on the arc %d meets the network of\n%s", i, budget.Text(l))
		}
	}
}

// P7.4

// breachesText writes breaches as articles, each with what the lines have.
func breachesText(l []api.Breach) string {
	var words []string
	for _, x := range l {
		kind := map[int]string{api.ChangeCeiling: "ceiling", api.ChangeFloor: "floor"}[x.Kind]
		words = append(words, fmt.Sprintf("%s %s %d %d: %d", kind, x.Bound.Code, x.Bound.Year, x.Bound.Amount, x.Amount))
	}
	return strings.Join(words, "; ")
}

func TestBreaches(t *testing.T) {
	const lines = "line 1 12 500; line 1 13 510; line 2.1 12 0; line 2.9 12 6; line 2.9 13 8; line 2.10 12 30"
	for _, c := range []struct{ name, bounds, want string }{
		{"no bounds", "", ""},
		{"bounds that are just kept", "ceiling 1 all 1010; ceiling 1 12 500; ceiling 2 12 36; floor 1 all 1010; floor 2 12 36; floor 9 all 0", ""},
		{"a ceiling of a year", "ceiling 1 12 499; ceiling 1 13 510", "ceiling 1 12 499: 500"},
		{"a ceiling of all years", "ceiling 1 all 1009", "ceiling 1 -1 1009: 1010"},
		{"a ceiling over leaves", "ceiling 2 12 35; ceiling 2.9 12 6", "ceiling 2 12 35: 36"},
		{"a ceiling over leaves and years", "ceiling 2 all 43", "ceiling 2 -1 43: 44"},
		{"a floor of a year", "floor 1 12 501; floor 1 13 510", "floor 1 12 501: 500"},
		{"a floor of all years", "floor 1 all 1011", "floor 1 -1 1011: 1010"},
		{"a floor over leaves", "floor 2 13 9", "floor 2 13 9: 8"},
		{"a floor of a line that is not there", "floor 9 12 1; floor 2.1 13 1", "floor 2.1 13 1: 0; floor 9 12 1: 0"},
		{"a floor above a ceiling", "ceiling 1 12 5; floor 1 12 600", "ceiling 1 12 5: 500; floor 1 12 600: 500"},
		{"in their order", "ceiling 1 all 0; ceiling 1 13 0; ceiling 2 12 0; ceiling 2.9 13 0; ceiling 2.10 13 0; floor 1 13 511; floor 2 all 45; floor 2.9 13 9; floor 2.10 12 31", "ceiling 1 -1 0: 1010; ceiling 1 13 0: 510; ceiling 2 12 0: 36; ceiling 2.9 13 0: 8; floor 1 13 511: 510; floor 2 -1 45: 44; floor 2.9 13 9: 8; floor 2.10 12 31: 30"},
		{"amendments do not count", "ceiling 1 12 500; amend 0-01-01 1 line 1 12 900; amend 0-01-01 1 ceiling 1 12 1", ""},
	} {
		articles := lines
		if c.bounds != "" {
			articles += "; " + c.bounds
		}
		l := lawOf(t, articles)
		breaches, e := Breaches(l)
		if got := breachesText(breaches); got != c.want || e != api.OK {
			t.Errorf("%s: %s, error %d, not %s", c.name, got, e, c.want)
		}
		if Kept(l) != (c.want == "") {
			t.Errorf("%s: kept: %v", c.name, Kept(l))
		}
	}
}

func TestBreachesOfBadLaws(t *testing.T) {
	for want, l := range badLaws(t) {
		if breaches, e := Breaches(l); breaches != nil || e != want || Kept(l) {
			t.Errorf("breaches %v, error %d, not %d, kept: %v", breaches, e, want, Kept(l))
		}
	}
	if !Kept(api.Law{Years: 1}) {
		t.Error("a law with years alone is not kept")
	}
}

func TestBreachesOfMuch(t *testing.T) {
	text := "years 12 2\nheading 1 a\n"
	for i := 1; i <= 59; i++ {
		text += fmt.Sprintf("heading 1.%d x\n", i)
	}
	text += "ceiling 1 all 1000000000000\nfloor 1 all 1000000000000\n"
	l := parsed(t, text)
	for i := range 118 {
		l.Lines = append(l.Lines, api.Line{Code: fmt.Sprint("1.", 1+i/2), Year: 12 + i%2, Amount: mostAmount})
	}
	breaches, e := Breaches(l)
	if got, want := breachesText(breaches), "ceiling 1 -1 1000000000000: 118000000000000"; got != want || e != api.OK {
		t.Errorf("%s, error %d, not %s", got, e, want)
	}
}

// The consequences, and P1

func TestLinesMeetTheNetworkIfTheLawIsKept(t *testing.T) {
	r := rand.New(rand.NewSource(10))
	kept := 0
	for range 1500 {
		l := randomLaw(r, 3)
		if r.Intn(2) == 0 {
			l.Ceilings, l.Floors = l.Ceilings[:min(len(l.Ceilings), 2)], l.Floors[:min(len(l.Floors), 1)]
		}
		net, _ := Net(l, nil)
		flow, _ := Flow(l, l.Lines)
		if Meets(net, flow) != Kept(l) {
			t.Fatalf("kept: %v, but not so in the network of\n%s", Kept(l), budget.Text(l))
		}
		if Kept(l) {
			kept++
		}
	}
	if kept < 200 || kept > 1300 {
		t.Errorf("%d of 1500 laws are kept", kept)
	}
}

func TestArgumentsStayAsTheyAre(t *testing.T) {
	r := rand.New(rand.NewSource(11))
	for range 50 {
		l := randomLaw(r, 5)
		ranges := randomRanges(r, l, 5)
		law, rs := copyOf(l), slices.Clone(ranges)
		net, _ := Net(l, ranges)
		flow, _ := Flow(l, l.Lines)
		lines, _ := Lines(l, flow)
		breaches, _ := Breaches(l)
		Check(l, ranges)
		Kept(l)
		Meets(net, flow)
		if !budget.Same(l, law) || !slices.Equal(ranges, rs) {
			t.Fatal("an argument was changed")
		}
		clear(net.Arcs)
		clear(flow)
		clear(lines)
		clear(breaches)
		if !budget.Same(l, law) || !slices.Equal(ranges, rs) {
			t.Fatal("a result shares memory with an argument")
		}
	}
}

func TestLargestLaw(t *testing.T) {
	l := api.Law{First: 96, Years: 4}
	for i := 1; i <= 60; i++ {
		l.Tree = append(l.Tree, api.Heading{Code: fmt.Sprint(i), Name: "n"})
	}
	net, e := Net(l, nil)
	if e != api.OK || net.Places != 601 || len(net.Arcs) != 840 {
		t.Errorf("error %d, %d places, %d arcs", e, net.Places, len(net.Arcs))
	}
}
