package feasible

import (
	"fmt"
	"math"
	"math/rand"
	"slices"
	"testing"

	"treasury/api"
	"treasury/budget"
	"treasury/classification"
	"treasury/constraint"
)

// badDrafts are laws and ranges with an error of constraint.Check.
func badDrafts(t *testing.T) []struct {
	name string
	law  api.Law
	r    []api.Range
	want api.Errno
} {
	l := lawOf(t, "line 1 12 500; ceiling 1 12 0")
	tree := copyOf(l)
	tree.Tree[5].Code = "3.1"
	lines := copyOf(l)
	lines.Lines[0].Year = 11
	return []struct {
		name string
		law  api.Law
		r    []api.Range
		want api.Errno
	}{
		{"no law", api.Law{}, nil, api.ErrRange},
		{"no tree", tree, nil, api.ErrUnknown},
		{"a line of another year", lines, nil, api.ErrYear},
		{"a law ahead of ranges", lines, make([]api.Range, 121), api.ErrYear},
		{"121 ranges", l, make([]api.Range, 121), api.ErrLimit},
		{"a range of no leaf", l, []api.Range{rangeOf("2", 12, 0, 1)}, api.ErrCode},
		{"a range of another year", l, []api.Range{rangeOf("1", 14, 0, 1)}, api.ErrYear},
		{"a range with Least above Most", l, []api.Range{rangeOf("1", 12, 2, 1)}, api.ErrRange},
		{"a range twice", l, []api.Range{rangeOf("1", 12, 0, 1), rangeOf("1", 12, 0, 1)}, api.ErrOrder},
	}
}

func TestBadDrafts(t *testing.T) {
	for _, c := range badDrafts(t) {
		if lines, e := Solve(c.law, c.r); lines != nil || e != c.want {
			t.Errorf("%s: lines %v, error %d, not %d", c.name, lines, e, c.want)
		}
		if places, e := Witness(c.law, c.r); places != nil || e != c.want {
			t.Errorf("%s: witness %v, error %d, not %d", c.name, places, e, c.want)
		}
		for _, places := range [][]int{nil, {-1}, {1}} {
			if floors, ceilings, e := Explain(c.law, c.r, places); floors != nil || ceilings != nil || e != c.want {
				t.Errorf("%s: floors %v, ceilings %v, error %d, not %d", c.name, floors, ceilings, e, c.want)
			}
		}
		if Keeps(c.law, c.r, nil) || Keeps(c.law, c.r, c.law.Lines) {
			t.Errorf("%s: lines keep it", c.name)
		}
	}
}

// P8.1

func TestKeeps(t *testing.T) {
	l := lawOf(t, "line 1 12 500; line 2.1 12 0; line 2.9 13 7; ceiling 2 all 30; ceiling 2.1 13 5; floor 2 12 3; floor 1 all 510")
	r := []api.Range{rangeOf("1", 13, 10, 20), rangeOf("2.1", 12, 0, 10), rangeOf("2.1", 13, 0, 10), rangeOf("2.10", 12, 0, 20)}
	good := []api.Line{lineOf("1", 12, 500), lineOf("1", 13, 10), lineOf("2.1", 12, 3), lineOf("2.9", 13, 7)}
	with := func(change func(l []api.Line) []api.Line) []api.Line { return change(slices.Clone(good)) }
	replaced := func(i int, x api.Line) []api.Line {
		return with(func(l []api.Line) []api.Line { l[i] = x; return l })
	}
	for _, c := range []struct {
		name  string
		lines []api.Line
		want  bool
	}{
		{"a solution", good, true},
		{"the most of a range", replaced(1, lineOf("1", 13, 20)), true},
		{"another line of a range", append(slices.Clone(good), lineOf("2.10", 12, 20)), true},
		{"no lines", nil, false},
		{"below the least of a range", replaced(1, lineOf("1", 13, 9)), false},
		{"above the most of a range", replaced(1, lineOf("1", 13, 21)), false},
		{"another amount than that of the law", replaced(0, lineOf("1", 12, 501)), false},
		{"the line of the law missing", good[:3], false},
		{"a line that the law does not have", append(slices.Clone(good), lineOf("9", 12, 1)), false},
		{"a floor missed", replaced(2, lineOf("2.1", 12, 2)), false},
		{"a ceiling of a year exceeded", slices.Insert(slices.Clone(good), 3, lineOf("2.1", 13, 6)), false},
		{"a ceiling of all years exceeded", append(replaced(2, lineOf("2.1", 12, 4)), lineOf("2.10", 12, 20)), false},
		{"a line of 0", slices.Insert(slices.Clone(good), 3, lineOf("2.1", 13, 0)), false},
		{"a line of 0 behind all", append(slices.Clone(good), lineOf("9", 13, 0)), false},
		{"out of order", with(func(l []api.Line) []api.Line { l[0], l[1] = l[1], l[0]; return l }), false},
		{"codes in the order of bytes", with(func(l []api.Line) []api.Line { return slices.Insert(l, 3, lineOf("2.10", 12, 1)) }), false},
		{"a line in two parts", slices.Insert(replaced(2, lineOf("2.1", 12, 1)), 2, lineOf("2.1", 12, 2)), false},
		{"a code with others under it", replaced(2, lineOf("2", 12, 3)), false},
		{"a code that is not there", append(slices.Clone(good), lineOf("10", 12, 1)), false},
		{"no code", slices.Insert(slices.Clone(good), 0, lineOf("", 12, 1)), false},
		{"another year", append(slices.Clone(good), lineOf("9", 14, 1)), false},
		{"below 0", replaced(2, lineOf("2.1", 12, -3)), false},
		{"too much", replaced(2, lineOf("2.1", 12, mostAmount+1)), false},
		{"the ends of numbers", []api.Line{lineOf("1", math.MinInt, math.MaxInt)}, false},
	} {
		if got := Keeps(l, r, c.lines); got != c.want || got != keepsOf(l, r, c.lines) {
			t.Errorf("%s: %v", c.name, got)
		}
	}
	for _, c := range []api.Law{{Years: 1}, parsed(t, "years 12 1\nheading 1 a\nceiling 1 12 0\nfloor 1 all 0")} {
		if !Keeps(c, nil, nil) || !Keeps(c, []api.Range{}, []api.Line{}) {
			t.Error("no lines do not keep a law that asks for none")
		}
	}
}

func TestKeepsOfRandomLines(t *testing.T) {
	r := rand.New(rand.NewSource(81))
	kept := 0
	for range 4000 {
		l, ranges := randomLaw(r, 5, 2, 6)
		if r.Intn(2) == 0 {
			l.Ceilings, l.Floors = l.Ceilings[:min(1, len(l.Ceilings))], nil
		}
		lines := randomLines(r, l, ranges)
		got := Keeps(l, ranges, lines)
		if got != keepsOf(l, ranges, lines) {
			t.Fatalf("%v keep %v: %v, ranges %v\n%s", lines, ranges, got, ranges, budget.Text(l))
		}
		if got {
			kept++
		}
	}
	if kept < 300 || kept > 3700 {
		t.Errorf("%d of 4000 are kept", kept)
	}
}

// randomLines returns lines within ranges, but for a few.
func randomLines(r *rand.Rand, l api.Law, ranges []api.Range) []api.Line {
	lines := slices.Clone(l.Lines)
	for _, x := range ranges {
		lines = slices.DeleteFunc(lines, func(y api.Line) bool { return y.Code == x.Code && y.Year == x.Year })
		lines = append(lines, lineOf(x.Code, x.Year, x.Least+r.Intn(x.Most-x.Least+1)))
	}
	slices.SortFunc(lines, compareLines)
	if r.Intn(20) > 0 {
		lines = slices.DeleteFunc(lines, func(y api.Line) bool { return y.Amount == 0 })
	}
	if len(lines) > 1 && r.Intn(20) == 0 {
		i := r.Intn(len(lines) - 1)
		lines[i], lines[i+1] = lines[i+1], lines[i]
	}
	if len(lines) > 0 && r.Intn(20) == 0 {
		lines[r.Intn(len(lines))].Amount++
	}
	return lines
}

// solved fails unless there is a solution, and no witness.
func solved(t *testing.T, name string, l api.Law, ranges []api.Range) []api.Line {
	t.Helper()
	lines, e := Solve(l, ranges)
	if e != api.OK || !Keeps(l, ranges, lines) || !keepsOf(l, ranges, lines) {
		t.Errorf("%s: %v are no solution, error %d", name, lines, e)
	}
	if places, e := Witness(l, ranges); places != nil || e != api.ErrNone {
		t.Errorf("%s: witness %v, error %d, of what has a solution", name, places, e)
	}
	return lines
}

// refuted fails unless there is a witness, and no solution.
func refuted(t *testing.T, name string, l api.Law, ranges []api.Range) []int {
	t.Helper()
	if lines, e := Solve(l, ranges); lines != nil || e != api.ErrNone {
		t.Errorf("%s: solution %v, error %d", name, lines, e)
	}
	net, _ := constraint.Net(l, ranges)
	places, e := Witness(l, ranges)
	out, in := sidesOf(net, places)
	if e != api.OK || !Check(net, places) || out <= in {
		t.Errorf("%s: %v is no right witness, error %d, %d out and %d in", name, places, e, out, in)
	}
	floors, ceilings, e := Explain(l, ranges, places)
	if e != api.OK || together(floors) != out || together(ceilings) != in {
		t.Errorf("%s: floors %v and ceilings %v, error %d, explain %d out and %d in", name, floors, ceilings, e, out, in)
	}
	return places
}

func TestSolve(t *testing.T) {
	most := func(code string, years ...int) []api.Range {
		var r []api.Range
		for _, year := range years {
			r = append(r, rangeOf(code, year, 0, mostAmount))
		}
		return r
	}
	for _, c := range []struct {
		name, law string
		r         []api.Range
		ok        bool
	}{
		{"nothing", "", nil, true},
		{"lines alone", "line 1 12 500; line 2.9 13 7", nil, true},
		{"lines that keep their bounds", "line 1 12 500; ceiling 1 12 500; ceiling 1 all 500; floor 1 12 500; floor 1 all 500", nil, true},
		{"a line above a ceiling", "line 1 12 500; ceiling 1 12 499", nil, false},
		{"a line above a ceiling of all years", "line 1 12 500; ceiling 1 all 499", nil, false},
		{"a line below a floor", "line 1 12 500; floor 1 12 501", nil, false},
		{"a line below a floor of all years", "line 1 12 500; floor 1 all 501", nil, false},
		{"a line below a floor, with a range", "line 1 12 500; floor 1 12 501", most("1", 12), true},
		{"a floor without a line", "floor 2 13 1", nil, false},
		{"a floor without a line, with a range", "floor 2 13 1", most("2.9", 13), true},
		{"a floor without a line, with a range of another year", "floor 2 13 1", most("2.9", 12), false},
		{"a floor of all years, with a range", "floor 2 all 1", most("2.9", 13), true},
		{"a floor above the ceiling of its code", "ceiling 1 12 5; floor 1 12 6", most("1", 12), false},
		{"a floor above the ceiling of its code, all years", "ceiling 1 all 5; floor 1 all 6", most("1", 12, 13), false},
		{"a floor as high as the ceiling of its code", "ceiling 1 all 6; floor 1 all 6", most("1", 12, 13), true},
		{"a floor of all years above the ceilings of years", "ceiling 1 12 5; ceiling 1 13 6; floor 1 all 12", most("1", 12, 13), false},
		{"a floor of all years as the ceilings of years", "ceiling 1 12 5; ceiling 1 13 6; floor 1 all 11", most("1", 12, 13), true},
		{"floors of years above the ceiling of all years", "ceiling 1 all 10; floor 1 12 5; floor 1 13 6", most("1", 12, 13), false},
		{"floors of leaves above the ceiling over them", "ceiling 2 12 10; floor 2.1 12 5; floor 2.9 12 6", append(most("2.1", 12), most("2.9", 12)...), false},
		{"floors of leaves as the ceiling over them", "ceiling 2 12 11; floor 2.1 12 5; floor 2.9 12 6", append(most("2.1", 12), most("2.9", 12)...), true},
		{"the least of ranges above a ceiling", "ceiling 2 12 10", []api.Range{rangeOf("2.1", 12, 5, 9), rangeOf("2.9", 12, 6, 9)}, false},
		{"the most of ranges below a floor", "floor 2 12 19", []api.Range{rangeOf("2.1", 12, 5, 9), rangeOf("2.9", 12, 6, 9)}, false},
		{"the ends of ranges", "floor 2 12 18", []api.Range{rangeOf("2.1", 12, 5, 9), rangeOf("2.9", 12, 6, 9)}, true},
		{"the largest amounts", "floor 1 12 1000000000000; floor 1 13 1000000000000; ceiling 1 12 1000000000000", most("1", 12, 13), true},
		{"what amendments say does not count", "line 1 12 5; amend 0-01-01 1 floor 1 12 9; floor 1 12 5", nil, true},
		{"rows and columns", "ceiling 2.1 all 3; ceiling 2.9 all 4; floor 2 12 5; floor 2 13 2", []api.Range{rangeOf("2.1", 12, 0, 2), rangeOf("2.1", 13, 0, 2), rangeOf("2.9", 12, 0, 3), rangeOf("2.9", 13, 0, 3)}, true},
		{"rows and columns that do not fit", "ceiling 2.1 all 3; ceiling 2.9 all 4; floor 2 12 5; floor 2 13 3", []api.Range{rangeOf("2.1", 12, 0, 2), rangeOf("2.1", 13, 0, 2), rangeOf("2.9", 12, 0, 3), rangeOf("2.9", 13, 0, 3)}, false},
	} {
		l := lawOf(t, c.law)
		if c.ok {
			solved(t, c.name, l, c.r)
		} else {
			refuted(t, c.name, l, c.r)
		}
	}
	solved(t, "years alone", api.Law{Years: 4}, nil)
}

// mostOf counts how often a thing is so, and fails if it hardly ever or nearly always is.
func mostOf(t *testing.T, name string, n, all int) {
	t.Helper()
	if n < all/8 || n > all-all/8 {
		t.Errorf("%s: %d of %d", name, n, all)
	}
}

func TestSolveOfSmallLaws(t *testing.T) {
	r := rand.New(rand.NewSource(82))
	found, all := 0, 1500
	for range all {
		l, ranges := randomLaw(r, 4, 2, 3)
		lines := firstSolution(l, ranges)
		if got, e := Solve(l, ranges); (e == api.OK) != (lines != nil) {
			t.Fatalf("solution %v, error %d, where %v are one, ranges %v\n%s", got, e, lines, ranges, budget.Text(l))
		}
		if lines != nil {
			solved(t, "a small law", l, ranges)
			found++
		} else {
			refuted(t, "a small law", l, ranges)
		}
	}
	mostOf(t, "solved", found, all)
}

// firstSolution tries all lines; it returns nil if none of them are a solution.
func firstSolution(l api.Law, ranges []api.Range) []api.Line {
	lines := []api.Line{}
	var try func(places int) []api.Line
	leaves := classification.Leaves(l.Tree, "")
	try = func(k int) []api.Line {
		if k == len(leaves)*l.Years {
			if keepsOf(l, ranges, lines) {
				return slices.Clone(lines)
			}
			return nil
		}
		code, year := leaves[k/l.Years], l.First+k%l.Years
		least := budget.Line(l, code, year)
		most := least
		for _, x := range ranges {
			if x.Code == code && x.Year == year {
				least, most = x.Least, x.Most
			}
		}
		for n := least; n <= most; n++ {
			if n > 0 {
				lines = append(lines, lineOf(code, year, n))
			}
			if found := try(k + 1); found != nil {
				return found
			}
			if n > 0 {
				lines = lines[:len(lines)-1]
			}
		}
		return nil
	}
	return try(0)
}

func TestSolveOfLargeLaws(t *testing.T) {
	r := rand.New(rand.NewSource(83))
	found, all := 0, 500
	for range all {
		l, ranges := randomLaw(r, 60, 4, []int{5, 1000, mostAmount / 4}[r.Intn(3)])
		if len(ranges) > 10 && r.Intn(2) == 0 {
			l.Ceilings, l.Floors = l.Ceilings[:len(l.Ceilings)/2], l.Floors[:len(l.Floors)/4]
		}
		if _, e := Solve(l, ranges); e == api.OK {
			lines := solved(t, "a large law", l, ranges)
			wider(t, r, l, ranges, lines)
			found++
		} else {
			refuted(t, "a large law", l, ranges)
		}
	}
	mostOf(t, "solved", found, all)
}

// wider fails unless a solution is one of greater ranges, too.
func wider(t *testing.T, r *rand.Rand, l api.Law, ranges []api.Range, lines []api.Line) {
	t.Helper()
	ranges = slices.Clone(ranges)
	for i := range ranges {
		ranges[i].Least -= min(r.Intn(3), ranges[i].Least)
		ranges[i].Most = min(ranges[i].Most+r.Intn(3), mostAmount)
	}
	if !Keeps(l, ranges, lines) {
		t.Errorf("a solution of some ranges is none of greater ones\n%s", budget.Text(l))
	}
}

func TestSolveIsTheSameForEqualArguments(t *testing.T) {
	r := rand.New(rand.NewSource(84))
	for range 60 {
		l, ranges := randomLaw(r, 20, 3, 100)
		lines, e := Solve(l, ranges)
		places, f := Witness(l, ranges)
		for range 3 {
			again, g := Solve(copyOf(l), slices.Clone(ranges))
			others, h := Witness(copyOf(l), slices.Clone(ranges))
			if !slices.Equal(again, lines) || g != e || !slices.Equal(others, places) || h != f {
				t.Fatalf("lines %v and %v, witnesses %v and %v", lines, again, places, others)
			}
		}
	}
}

// P8.2

func TestSides(t *testing.T) {
	circle := netWith(3, 0, 1, 2, 9, 1, 2, 3, 8, 2, 0, 4, 7)
	full := netWith(2, slices.Repeat([]int{0, 1, mostTotal, mostTotal}, 1000)...)
	for _, c := range []struct {
		name    string
		net     api.Net
		places  []int
		out, in int
		e       api.Errno
	}{
		{"nothing", api.Net{}, nil, 0, 0, api.OK},
		{"no places of some", circle, nil, 0, 0, api.OK},
		{"one place", circle, []int{0}, 2, 7, api.OK},
		{"another place", circle, []int{1}, 3, 9, api.OK},
		{"two places", circle, []int{0, 2}, 2, 8, api.OK},
		{"all places", circle, []int{0, 1, 2}, 0, 0, api.OK},
		{"from a place to itself", netWith(2, 1, 1, 5, 5), []int{1}, 0, 0, api.OK},
		{"two arcs alike", netWith(2, 0, 1, 2, 9, 0, 1, 2, 9), []int{0}, 4, 0, api.OK},
		{"Low above High", netWith(2, 0, 1, 9, 2), []int{0}, 9, 0, api.OK},
		{"Low above High", netWith(2, 0, 1, 9, 2), []int{1}, 0, 2, api.OK},
		{"a place without arcs", netWith(9, 0, 1, 2, 9), []int{8}, 0, 0, api.OK},
		{"the ends of places", netWith(math.MaxInt, 0, math.MaxInt-1, 2, 9), []int{math.MaxInt - 1}, 0, 9, api.OK},
		{"1,000 arcs", full, []int{0}, 1000 * mostTotal, 0, api.OK},
		{"1,000 arcs", full, []int{1}, 0, 1000 * mostTotal, api.OK},
		{"1,001 arcs", netWith(2, slices.Repeat([]int{0, 1, 2, 9}, 1001)...), []int{0}, 0, 0, api.ErrLimit},
		{"1,001 arcs ahead of places", netWith(-1, slices.Repeat([]int{0, 1, -1, -1}, 1001)...), []int{3, 2}, 0, 0, api.ErrLimit},
		{"from a place below 0", netWith(2, -1, 1, 2, 9), nil, 0, 0, api.ErrInvalid},
		{"from a place too large", netWith(2, 2, 1, 2, 9), nil, 0, 0, api.ErrInvalid},
		{"to a place below 0", netWith(2, 0, -1, 2, 9), nil, 0, 0, api.ErrInvalid},
		{"to a place too large", netWith(2, 0, 1, 2, 9, 0, 2, 2, 9), nil, 0, 0, api.ErrInvalid},
		{"arcs without places", netWith(0, 0, 0, 2, 9), nil, 0, 0, api.ErrInvalid},
		{"places below 0", netWith(math.MinInt, 0, 0, 2, 9), nil, 0, 0, api.ErrInvalid},
		{"a place twice", circle, []int{1, 1}, 0, 0, api.ErrInvalid},
		{"places that descend", circle, []int{2, 1}, 0, 0, api.ErrInvalid},
		{"places that descend at the end", circle, []int{0, 2, 1}, 0, 0, api.ErrInvalid},
		{"a listed place below 0", circle, []int{-1, 1}, 0, 0, api.ErrInvalid},
		{"a listed place too large", circle, []int{1, 3}, 0, 0, api.ErrInvalid},
		{"a listed place of none", api.Net{}, []int{0}, 0, 0, api.ErrInvalid},
		{"places ahead of numbers", netWith(2, 0, 1, -1, 9), []int{2}, 0, 0, api.ErrInvalid},
		{"an arc without a place ahead of numbers", netWith(2, 0, 1, -1, 9, 0, 2, 2, 9), nil, 0, 0, api.ErrInvalid},
		{"Low below 0", netWith(2, 0, 1, -1, 9), []int{0}, 0, 0, api.ErrRange},
		{"Low too large", netWith(2, 0, 1, mostTotal+1, 9), []int{0}, 0, 0, api.ErrRange},
		{"High below 0", netWith(2, 0, 1, 0, -1), []int{0}, 0, 0, api.ErrRange},
		{"High too large", netWith(2, 0, 1, 0, mostTotal+1), []int{0}, 0, 0, api.ErrRange},
		{"a number that is not asked for", netWith(2, 0, 0, 0, -1), nil, 0, 0, api.ErrRange},
		{"the ends of numbers", netWith(2, 0, 1, math.MinInt, math.MaxInt), []int{0}, 0, 0, api.ErrRange},
	} {
		out, in, e := Sides(c.net, c.places)
		if out != c.out || in != c.in || e != c.e {
			t.Errorf("%s: %d out and %d in, error %d, not %d and %d, error %d", c.name, out, in, e, c.out, c.in, c.e)
		}
		if Check(c.net, c.places) != (c.out > c.in) {
			t.Errorf("%s: a right witness: %v", c.name, Check(c.net, c.places))
		}
	}
	if Check(netWith(2, 0, 1, 5, 9, 1, 0, 2, 5), []int{0}) {
		t.Error("as much out as in proves something")
	}
}

func TestSidesOfRandomNetworks(t *testing.T) {
	r := rand.New(rand.NewSource(85))
	for range 3000 {
		n := api.Net{Places: 1 + r.Intn(6)}
		for range r.Intn(12) {
			n.Arcs = append(n.Arcs, api.Arc{From: r.Intn(n.Places), To: r.Intn(n.Places), Low: r.Intn(9), High: r.Intn(9)})
		}
		var places []int
		for p := range n.Places {
			if r.Intn(2) == 0 {
				places = append(places, p)
			}
		}
		out, in, e := Sides(n, places)
		if x, y := sidesOf(n, places); e != api.OK || out != x || in != y || Check(n, places) != (x > y) {
			t.Fatalf("%v of %v: %d out and %d in, error %d, not %d and %d", places, n, out, in, e, x, y)
		}
	}
}

// P8.3: see also refuted and solved

func TestWitness(t *testing.T) {
	l := parsed(t, "years 3 2\nheading 1 a\nfloor 1 all 250")
	r := []api.Range{rangeOf("1", 3, 0, 100), rangeOf("1", 4, 0, 100)}
	net, _ := constraint.Net(l, r)
	if !Check(net, []int{5}) {
		t.Error("the upper place of the code 1 for all years proves nothing")
	}
	refuted(t, "the example", l, r)
	r[1].Most = 150
	if net, _ = constraint.Net(l, r); Check(net, []int{5}) {
		t.Error("the upper place of the code 1 for all years proves something that is not so")
	}
	solved(t, "the example with 150", l, r)
}

// P8.4

func TestExplain(t *testing.T) {
	for _, c := range []struct {
		name, law        string
		r                []api.Range
		places           []int
		floors, ceilings []api.Bound
	}{
		{
			"the example", "years 3 2\nheading 1 a\nfloor 1 all 250", []api.Range{rangeOf("1", 3, 0, 100), rangeOf("1", 4, 0, 100)}, []int{5},
			[]api.Bound{boundOf("1", -1, 250)}, []api.Bound{boundOf("1", 3, 100), boundOf("1", 4, 100)},
		},
		{
			"a floor above the ceiling of its code", "years 12 1\nheading 1 a\nceiling 1 12 5\nfloor 1 12 6", []api.Range{rangeOf("1", 12, 0, 9)}, []int{1},
			[]api.Bound{boundOf("1", 12, 6)}, []api.Bound{boundOf("1", 12, 5)},
		},
		{
			"a line above a ceiling of a year over it", "years 12 1\nheading 1 a\nheading 1.1 b\nline 1.1 12 7\nceiling 1 12 5", nil, []int{1, 2, 3, 4},
			[]api.Bound{boundOf("1.1", 12, 7)}, []api.Bound{boundOf("1", 12, 5)},
		},
		{
			"a line above a ceiling of all years over it", "years 12 1\nheading 1 a\nheading 1.1 b\nline 1.1 12 7\nceiling 1 all 5", nil, []int{0, 1, 2, 3, 4},
			[]api.Bound{boundOf("1.1", 12, 7)}, []api.Bound{boundOf("1", -1, 5)},
		},
		{
			"floors of years above a ceiling of all years", "years 12 2\nheading 1 a\nceiling 1 all 10\nfloor 1 12 5\nfloor 1 13 6", []api.Range{rangeOf("1", 12, 0, 9), rangeOf("1", 13, 0, 9)}, []int{0, 1, 3},
			[]api.Bound{boundOf("1", 12, 5), boundOf("1", 13, 6)}, []api.Bound{boundOf("1", -1, 10)},
		},
		{
			"an arc with Low 0 that leads out, and one with High 0 that leads in", "years 12 1\nheading 1 a\nheading 2 b\nfloor 2 all 6", nil, []int{5, 7},
			[]api.Bound{boundOf("2", -1, 6)}, []api.Bound{boundOf("1", 12, 0), boundOf("2", 12, 0)},
		},
	} {
		l := parsed(t, c.law)
		floors, ceilings, e := Explain(l, c.r, c.places)
		if !slices.Equal(floors, c.floors) || !slices.Equal(ceilings, c.ceilings) || e != api.OK {
			t.Errorf("%s: floors %v, ceilings %v, error %d, not %v and %v", c.name, floors, ceilings, e, c.floors, c.ceilings)
		}
		refuted(t, c.name, l, c.r)
		for _, places := range [][]int{nil, {-1}, {0, 0}, {1 << 40}, {2}, append(slices.Clone(c.places), 100)} {
			if floors, ceilings, e := Explain(l, c.r, places); floors != nil || ceilings != nil || e != api.ErrWitness {
				t.Errorf("%s: %v explain it with %v and %v, error %d", c.name, places, floors, ceilings, e)
			}
		}
	}
}

func TestExplainOfRandomLaws(t *testing.T) {
	r := rand.New(rand.NewSource(86))
	right := 0
	for range 4000 {
		l, ranges := randomLaw(r, 12, 3, 20)
		places, e := Witness(l, ranges)
		if e != api.OK {
			continue
		}
		net, _ := constraint.Net(l, ranges)
		// Some other places beside, or without some of them, may still be a witness.
		for _, p := range r.Perm(net.Places)[:min(net.Places, r.Intn(3))] {
			if i, found := slices.BinarySearch(places, p); found {
				places = slices.Delete(places, i, i+1)
			} else {
				places = slices.Insert(places, i, p)
			}
		}
		floors, ceilings, e := Explain(l, ranges, places)
		if out, in := sidesOf(net, places); out <= in {
			if floors != nil || ceilings != nil || e != api.ErrWitness {
				t.Fatalf("%v of\n%s: floors %v, ceilings %v, error %d", places, budget.Text(l), floors, ceilings, e)
			}
			continue
		}
		right++
		if x, y := explanationOf(l, net, places); e != api.OK || !slices.Equal(floors, x) || !slices.Equal(ceilings, y) {
			t.Fatalf("%v of\n%s: floors %v, ceilings %v, error %d, not %v and %v", places, budget.Text(l), floors, ceilings, e, x, y)
		}
	}
	if right < 300 {
		t.Errorf("%d right witnesses", right)
	}
}

// P1

func TestArgumentsStayAsTheyAre(t *testing.T) {
	r := rand.New(rand.NewSource(87))
	for range 100 {
		l, ranges := randomLaw(r, 8, 2, 9)
		law, rs := copyOf(l), slices.Clone(ranges)
		net, _ := constraint.Net(l, ranges)
		arcs := slices.Clone(net.Arcs)
		lines, _ := Solve(l, ranges)
		places, _ := Witness(l, ranges)
		kept, list := slices.Clone(lines), slices.Clone(places)
		Keeps(l, ranges, lines)
		Sides(net, places)
		Check(net, places)
		floors, ceilings, _ := Explain(l, ranges, places)
		if !slices.Equal(lines, kept) || !slices.Equal(places, list) || !slices.Equal(net.Arcs, arcs) {
			t.Fatal("lines, places or arcs were changed")
		}
		clear(floors)
		clear(ceilings)
		clear(lines)
		clear(places)
		if !budget.Same(l, law) || !slices.Equal(ranges, rs) {
			t.Fatal("an argument was changed")
		}
	}
}

// largest is a law of 60 codes in 4 years with as many bounds and ranges as there may be.
func largest() (api.Law, []api.Range) {
	l := api.Law{First: 96, Years: 4}
	for i := 1; i <= 4; i++ {
		l.Tree = append(l.Tree, api.Heading{Code: fmt.Sprint(i), Name: "n"})
		for j := 1; j <= 14; j++ {
			l.Tree = append(l.Tree, api.Heading{Code: fmt.Sprint(i, ".", j), Name: "n"})
		}
	}
	var ranges []api.Range
	for _, code := range classification.Leaves(l.Tree, "")[:30] {
		for year := 96; year < 100; year++ {
			ranges = append(ranges, rangeOf(code, year, 0, mostAmount))
		}
	}
	for _, h := range l.Tree {
		l.Floors = append(l.Floors, boundOf(h.Code, -1, 1000))
		l.Ceilings = append(l.Ceilings, boundOf(h.Code, -1, mostAmount-1))
	}
	return l, ranges
}

func TestLargestLaw(t *testing.T) {
	l, ranges := largest()
	refuted(t, "floors of leaves without a range", l, ranges)
	l.Floors = l.Floors[:30]
	l.Floors[0].Amount = mostAmount - 1
	solved(t, "the largest law", l, ranges)
}
