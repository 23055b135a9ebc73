package rights

import (
	"fmt"
	"math"
	"math/rand"
	"slices"
	"testing"

	"treasury/api"
)

// P13.1

func TestValid(t *testing.T) {
	good := treasuryOf(2, potOf("1", 12, 100, [4]int{60, 10, 20, 50}, [4]int{40, 40, 40, 0}), potOf("1", 13, -5, [4]int{}, [4]int{}), potOf("2.1", 12, 0, [4]int{}, [4]int{}))
	for _, c := range []struct {
		name   string
		change func(t *api.Treasury, p *api.Pot)
		want   bool
	}{
		{"as it is", func(t *api.Treasury, p *api.Pot) {}, true},
		{"no pots", func(t *api.Treasury, p *api.Pot) { t.Pots = nil }, true},
		{"no offices", func(t *api.Treasury, p *api.Pot) { t.Offices, t.Pots = 0, nil }, false},
		{"less than no offices", func(t *api.Treasury, p *api.Pot) { t.Offices, t.Pots = -1, nil }, false},
		{"1 office", func(t *api.Treasury, p *api.Pot) { t.Offices, t.Pots = 1, nil }, true},
		{"6 offices", func(t *api.Treasury, p *api.Pot) { t.Offices, t.Pots = mostOffices, nil }, true},
		{"7 offices", func(t *api.Treasury, p *api.Pot) { t.Offices, t.Pots = mostOffices+1, nil }, false},
		{"1 office, lists of 2", func(t *api.Treasury, p *api.Pot) { t.Offices = 1 }, false},
		{"3 offices, lists of 2", func(t *api.Treasury, p *api.Pot) { t.Offices = 3 }, false},
		{"no code", func(t *api.Treasury, p *api.Pot) { p.Code = "" }, false},
		{"what is no code", func(t *api.Treasury, p *api.Pot) { p.Code = "01" }, false},
		{"a code of 5 numbers", func(t *api.Treasury, p *api.Pot) { p.Code = "1.1.1.1.1" }, false},
		{"a year below 0", func(t *api.Treasury, p *api.Pot) { p.Year = -1 }, false},
		{"the year 0", func(t *api.Treasury, p *api.Pot) { p.Year = 0 }, true},
		{"the year 99", func(t *api.Treasury, p *api.Pot) { t.Pots = t.Pots[:1]; p.Year = 99 }, true},
		{"the year 100", func(t *api.Treasury, p *api.Pot) { t.Pots = t.Pots[:1]; p.Year = 100 }, false},
		{"the same pot twice", func(t *api.Treasury, p *api.Pot) { p.Year = 13 }, false},
		{"years that descend", func(t *api.Treasury, p *api.Pot) { p.Year = 14 }, false},
		{"codes that descend", func(t *api.Treasury, p *api.Pot) { p.Code = "2" }, false},
		{"codes by their numbers", func(t *api.Treasury, p *api.Pot) { t.Pots[2].Code = "10"; p.Code = "1" }, true},
		{"codes by their bytes", func(t *api.Treasury, p *api.Pot) { t.Pots[1].Code, t.Pots[2].Code = "10", "9" }, false},
		{"the least total", func(t *api.Treasury, p *api.Pot) { p.Total = -mostTotal }, true},
		{"less than it", func(t *api.Treasury, p *api.Pot) { p.Total = -mostTotal - 1 }, false},
		{"the largest total", func(t *api.Treasury, p *api.Pot) { p.Total = mostTotal }, true},
		{"more than it", func(t *api.Treasury, p *api.Pot) { p.Total = mostTotal + 1 }, false},
		{"granted lists too long", func(t *api.Treasury, p *api.Pot) { p.Granted = append(p.Granted, 0) }, false},
		{"heard lists too long", func(t *api.Treasury, p *api.Pot) { p.Heard = append(p.Heard, 0) }, false},
		{"asked lists too long", func(t *api.Treasury, p *api.Pot) { p.Asked = append(p.Asked, 0) }, false},
		{"used lists too long", func(t *api.Treasury, p *api.Pot) { p.Used = append(p.Used, 0) }, false},
		{"granted lists too short", func(t *api.Treasury, p *api.Pot) { p.Granted = p.Granted[:1] }, false},
		{"heard lists too short", func(t *api.Treasury, p *api.Pot) { p.Heard = p.Heard[:1] }, false},
		{"no asked list", func(t *api.Treasury, p *api.Pot) { p.Asked = nil }, false},
		{"no used list", func(t *api.Treasury, p *api.Pot) { p.Used = nil }, false},
		{"granted below 0", func(t *api.Treasury, p *api.Pot) { p.Granted[1], p.Heard[1], p.Asked[1] = -1, -1, -1 }, false},
		{"heard below 0", func(t *api.Treasury, p *api.Pot) { p.Heard[0] = -1 }, false},
		{"asked below 0", func(t *api.Treasury, p *api.Pot) { p.Asked[0] = -1 }, false},
		{"used below 0", func(t *api.Treasury, p *api.Pot) { p.Used[0] = -1 }, false},
		{"all that was granted heard", func(t *api.Treasury, p *api.Pot) { p.Heard[0] = 60 }, true},
		{"more than that", func(t *api.Treasury, p *api.Pot) { p.Heard[0] = 61 }, false},
		{"all that was granted asked", func(t *api.Treasury, p *api.Pot) { p.Asked[0] = 60 }, true},
		{"more than that", func(t *api.Treasury, p *api.Pot) { p.Asked[0] = 61 }, false},
		{"more used than granted", func(t *api.Treasury, p *api.Pot) { p.Used[1] = mostTotal }, true},
		{"too much used", func(t *api.Treasury, p *api.Pot) { p.Used[1] = mostTotal + 1 }, false},
		{"the largest sum granted", func(t *api.Treasury, p *api.Pot) { p.Granted[0] = mostTotal - 40 }, true},
		{"more than it", func(t *api.Treasury, p *api.Pot) { p.Granted[0] = mostTotal - 39 }, false},
		{"the largest number granted", func(t *api.Treasury, p *api.Pot) { p.Granted[0] = math.MaxInt }, false},
		{"a bad pot further on", func(t *api.Treasury, p *api.Pot) { t.Pots[2].Used[1] = -1 }, false},
	} {
		x := copyAll(good)
		c.change(&x, &x.Pots[0])
		if got := Valid(x); got != c.want {
			t.Errorf("%s: %v", c.name, got)
		}
		// What can not be valid is refused by all functions of a treasury, ahead of anything else.
		if !c.want {
			invalid(t, c.name, x)
		}
	}
	for n, want := range map[int]bool{mostPots: true, mostPots + 1: false} {
		if x := manyPots(n); Valid(x) != want {
			t.Errorf("%d pots: %v", n, !want)
		}
	}
}

// manyPots returns a treasury of one office with so many pots.
func manyPots(n int) api.Treasury {
	x := treasuryOf(1)
	for i := range n {
		x.Pots = append(x.Pots, potOf(fmt.Sprint(1+i/2), 12+i%2, 10, [4]int{}))
	}
	return x
}

// invalid fails unless all functions of a treasury refuse one that is not valid.
func invalid(t *testing.T, name string, x api.Treasury) {
	t.Helper()
	for office := -1; office <= 1; office += 2 {
		got, e := Set(x, "x", -1, math.MaxInt)
		refused(t, name+", Set", got, e, api.ErrInvalid)
		got, e = Set(x, "1", 12, 5)
		refused(t, name+", Set", got, e, api.ErrInvalid)
		got, e = Grant(x, office, "1", 12, office)
		refused(t, name+", Grant", got, e, api.ErrInvalid)
		got, e = Divide(x, "1", 12, []int{office})
		refused(t, name+", Divide", got, e, api.ErrInvalid)
		got, e = Ask(x, office, "1", 12, office)
		refused(t, name+", Ask", got, e, api.ErrInvalid)
		got, e = Hear(x, api.Message{From: office, Code: "1", Year: 12})
		refused(t, name+", Hear", got, e, api.ErrInvalid)
		if m, e := Tell(x, office, "1", 12); m != (api.Message{}) || e != api.ErrInvalid {
			t.Errorf("%s, Tell: %v, error %d", name, m, e)
		}
	}
}

func TestRight(t *testing.T) {
	for _, c := range []struct {
		name string
		r    api.Right
		want bool
	}{
		{"zeros", api.Right{Code: "1"}, true},
		{"a right", api.Right{Code: "1.2.3.4", Year: 12, Granted: 100, Asked: 30, Returned: 20}, true},
		{"all returned", api.Right{Code: "1", Year: 12, Granted: 100, Returned: 100}, true},
		{"more returned", api.Right{Code: "1", Year: 12, Granted: 100, Returned: 101}, false},
		{"returned below 0", api.Right{Code: "1", Year: 12, Granted: 100, Returned: -1}, false},
		{"more asked than granted", api.Right{Code: "1", Year: 12, Granted: 1, Asked: mostTotal}, true},
		{"too much asked", api.Right{Code: "1", Year: 12, Granted: 1, Asked: mostTotal + 1}, false},
		{"asked below 0", api.Right{Code: "1", Year: 12, Asked: -1}, false},
		{"the most granted", api.Right{Code: "1", Year: 12, Granted: mostTotal, Returned: mostTotal}, true},
		{"too much granted", api.Right{Code: "1", Year: 12, Granted: mostTotal + 1}, false},
		{"granted below 0", api.Right{Code: "1", Year: 12, Granted: -1, Returned: -1}, false},
		{"no code", api.Right{Year: 12}, false},
		{"what is no code", api.Right{Code: "1.", Year: 12}, false},
		{"a year below 0", api.Right{Code: "1", Year: -1}, false},
		{"the year 99", api.Right{Code: "1", Year: 99}, true},
		{"the year 100", api.Right{Code: "1", Year: 100}, false},
	} {
		if got := Right(c.r); got != c.want {
			t.Errorf("%s: %v", c.name, got)
		}
		if c.want {
			continue
		}
		if r, e := Learn(c.r, api.Message{Code: c.r.Code, Year: c.r.Year, Granted: -1}); r != (api.Right{}) || e != api.ErrInvalid {
			t.Errorf("%s, Learn: %v, error %d", c.name, r, e)
		}
		if r, e := Return(c.r, 0, -1); r != (api.Right{}) || e != api.ErrInvalid {
			t.Errorf("%s, Return: %v, error %d", c.name, r, e)
		}
		if n := Wanted(c.r, 0); n != 0 {
			t.Errorf("%s, Wanted: %d", c.name, n)
		}
	}
}

func TestPot(t *testing.T) {
	first := potOf("1", 12, 100, [4]int{1, 2, 3, 4})
	x := treasuryOf(-3, potOf("2", 12, 5), first, potOf("1", 12, 200), potOf("1", 13, 300), potOf("", -7, 400))
	for _, c := range []struct {
		code  string
		year  int
		total int
		found bool
	}{{"1", 12, 100, true}, {"1", 13, 300, true}, {"2", 12, 5, true}, {"", -7, 400, true}, {"2", 13, 0, false}, {"3", 12, 0, false}, {"01", 12, 0, false}, {"", 0, 0, false}} {
		p, found := Pot(x, c.code, c.year)
		if found != c.found || p.Total != c.total || found && (p.Code != c.code || p.Year != c.year) {
			t.Errorf("%q in %d: %v, %v", c.code, c.year, p, found)
		}
	}
	p, _ := Pot(x, "1", 12)
	if textOf(treasuryOf(0, p)) != textOf(treasuryOf(0, first)) {
		t.Errorf("the pot: %v", p)
	}
	p.Granted[0], p.Heard[0], p.Asked[0], p.Used[0] = 9, 9, 9, 9
	if first.Granted[0] != 1 || first.Heard[0] != 2 || first.Asked[0] != 3 || first.Used[0] != 4 {
		t.Error("the pot shares its memory")
	}
	if p, found := Pot(x, "3", 1); found || p.Code != "" || p.Year != 0 || p.Granted != nil {
		t.Errorf("no pot: %v", p)
	}
}

func TestOutFreeAndShortfall(t *testing.T) {
	uneven := potOf("1", 12, 10, [4]int{5, 1}, [4]int{7, 2}, [4]int{9, 4})
	short, long := uneven, uneven
	short.Granted, long.Heard = short.Granted[:2], long.Heard[:1]
	for _, c := range []struct {
		name                 string
		p                    api.Pot
		out, free, shortfall int
	}{
		{"nothing", api.Pot{}, 0, 0, 0},
		{"all free", potOf("1", 12, 100, [4]int{}), 0, 100, 0},
		{"all out", potOf("1", 12, 100, [4]int{60, 0, 60, 60}, [4]int{40, 0, 9, 9}), 100, 0, 0},
		{"the example", potOf("1", 12, 90, [4]int{60}, [4]int{40}), 100, -10, 10},
		{"the example, returned", potOf("1", 12, 90, [4]int{60, 10}, [4]int{40}), 90, 0, 0},
		{"a total below 0", potOf("1", 12, -7, [4]int{60, 10}), 50, -57, 57},
		{"a total below 0, nothing out", potOf("1", 12, -7, [4]int{10, 10}), 0, -7, 7},
		{"more heard than granted", potOf("1", 12, 10, [4]int{10, 30}), -20, 30, 0},
		{"more offices with heard", short, 9, 1, 0},
		{"more offices with granted", long, 4, 6, 0},
		{"no lists", api.Pot{Total: 3, Granted: []int{5}}, 0, 3, 0},
		{"sums that wrap", potOf("1", 12, 0, [4]int{math.MaxInt}, [4]int{1}), math.MinInt, math.MinInt, 0},
		{"the largest number out", potOf("1", 12, -1, [4]int{math.MaxInt}), math.MaxInt, math.MinInt, 0},
	} {
		if out, free, shortfall := Out(c.p), Free(c.p), Shortfall(c.p); out != c.out || free != c.free || shortfall != c.shortfall {
			t.Errorf("%s: out %d, free %d, shortfall %d, not %d, %d, %d", c.name, out, free, shortfall, c.out, c.free, c.shortfall)
		}
	}
}

// P13.2

func TestSet(t *testing.T) {
	x := treasuryOf(2)
	zeros := [4]int{}
	x, e := Set(x, "9", 12, 100)
	is(t, "the first pot", x, e, treasuryOf(2, potOf("9", 12, 100, zeros, zeros)))
	x, e = Set(x, "10", 12, mostTotal)
	is(t, "a pot behind", x, e, treasuryOf(2, potOf("9", 12, 100, zeros, zeros), potOf("10", 12, mostTotal, zeros, zeros)))
	x, e = Set(x, "9.1", 0, -mostTotal)
	is(t, "a pot between", x, e, treasuryOf(2, potOf("9", 12, 100, zeros, zeros), potOf("9.1", 0, -mostTotal, zeros, zeros), potOf("10", 12, mostTotal, zeros, zeros)))
	x, e = Set(x, "9", 11, 0)
	is(t, "a pot ahead", x, e, treasuryOf(2, potOf("9", 11, 0, zeros, zeros), potOf("9", 12, 100, zeros, zeros), potOf("9.1", 0, -mostTotal, zeros, zeros), potOf("10", 12, mostTotal, zeros, zeros)))
	x.Pots = x.Pots[:2]
	x.Pots[1] = potOf("9", 12, 100, [4]int{60, 1, 2, 3}, [4]int{4, 4, 4, 5})
	x, e = Set(x, "9", 12, 7)
	is(t, "a pot that is there", x, e, treasuryOf(2, potOf("9", 11, 0, zeros, zeros), potOf("9", 12, 7, [4]int{60, 1, 2, 3}, [4]int{4, 4, 4, 5})))
	x, e = Set(treasuryOf(mostOffices), "1", 99, 1)
	is(t, "6 offices", x, e, treasuryOf(mostOffices, potOf("1", 99, 1, zeros, zeros, zeros, zeros, zeros, zeros)))
}

func TestErrorsOfSet(t *testing.T) {
	x, full := treasuryOf(1, potOf("1", 12, 5, [4]int{})), manyPots(mostPots)
	for _, c := range []struct {
		name        string
		x           api.Treasury
		code        string
		year, total int
		want        api.Errno
	}{
		{"no code", x, "", 12, 5, api.ErrCode},
		{"what is no code", x, "1.0", 12, 5, api.ErrCode},
		{"a year below 0", x, "1", -1, 5, api.ErrRange},
		{"the year 100", x, "1", 100, 5, api.ErrRange},
		{"a total too small", x, "1", 12, -mostTotal - 1, api.ErrRange},
		{"a total too large", x, "1", 12, mostTotal + 1, api.ErrRange},
		{"codes ahead of ranges", x, "x", -1, math.MinInt, api.ErrCode},
		{"60 pots", full, "31", 12, 5, api.ErrLimit},
		{"60 pots, another year", full, "30", 14, 5, api.ErrLimit},
		{"ranges ahead of limits", full, "31", 12, math.MinInt, api.ErrRange},
		{"codes ahead of limits", full, "31.", 12, 5, api.ErrCode},
	} {
		got, e := Set(c.x, c.code, c.year, c.total)
		refused(t, c.name, got, e, c.want)
	}
	want := copyAll(full)
	want.Pots[59].Total = 5
	got, e := Set(full, "30", 13, 5)
	is(t, "one of 60 pots", got, e, want)
	first := copyAll(full)
	first.Pots[0].Total = 5
	got, e = Set(full, "1", 12, 5)
	is(t, "the first one of 60 pots", got, e, first)
	got, e = Set(manyPots(mostPots-1), "30", 13, 5)
	is(t, "the 60th pot", got, e, want)
}

// P13.3

func TestGrantAndDivide(t *testing.T) {
	pots := func(p api.Pot) api.Treasury { return treasuryOf(2, potOf("1", 11, 9, [4]int{}, [4]int{}), p) }
	x := pots(potOf("1", 12, 100, [4]int{20, 5, 7, 8}, [4]int{}))
	got, e := Grant(x, 1, "1", 12, 40)
	is(t, "a part", got, e, pots(potOf("1", 12, 100, [4]int{60, 5, 7, 8}, [4]int{})))
	got, e = Grant(got, 2, "1", 12, 45)
	is(t, "all that is free", got, e, pots(potOf("1", 12, 100, [4]int{60, 5, 7, 8}, [4]int{45})))
	refuse := func(name string, got api.Treasury, e, want api.Errno) { t.Helper(); refused(t, name, got, e, want) }
	none, e := Grant(got, 2, "1", 12, 1)
	refuse("more than what is free", none, e, api.ErrFunds)
	got, e = Divide(x, "1", 12, []int{80, 5})
	is(t, "all that is free, divided", got, e, pots(potOf("1", 12, 100, [4]int{100, 5, 7, 8}, [4]int{5})))
	got, e = Divide(x, "1", 12, []int{0, 85})
	is(t, "nothing for one", got, e, pots(potOf("1", 12, 100, [4]int{20, 5, 7, 8}, [4]int{85})))
	got, e = Divide(x, "1", 12, []int{0, 0})
	is(t, "nothing at all", got, e, x)
	none, e = Divide(x, "1", 12, []int{80, 6})
	refuse("more than what is free, divided", none, e, api.ErrFunds)
	none, e = Divide(pots(potOf("1", 12, -1, [4]int{}, [4]int{})), "1", 12, []int{0, 0})
	refuse("nothing of less than nothing", none, e, api.ErrFunds)
	got, e = Grant(pots(potOf("1", 12, mostTotal, [4]int{}, [4]int{})), 2, "1", 12, mostTotal)
	is(t, "the most there can be", got, e, pots(potOf("1", 12, mostTotal, [4]int{}, [4]int{mostTotal})))
}

func TestErrorsOfGrant(t *testing.T) {
	x := treasuryOf(2, potOf("1", 12, 10, [4]int{}, [4]int{}), potOf("2", 12, mostTotal, [4]int{mostTotal - 5, mostTotal - 5}, [4]int{}))
	for _, c := range []struct {
		name   string
		office int
		code   string
		year   int
		amount int
		want   api.Errno
	}{
		{"no such code", 1, "3", 12, 5, api.ErrUnknown},
		{"what is no code", 1, "", 12, 5, api.ErrUnknown},
		{"no such year", 1, "1", 13, 5, api.ErrUnknown},
		{"no office", 0, "1", 12, 5, api.ErrUnknown},
		{"an office too many", 3, "1", 12, 5, api.ErrUnknown},
		{"an office below 0", math.MinInt, "1", 12, 5, api.ErrUnknown},
		{"nothing", 1, "1", 12, 0, api.ErrRange},
		{"less than nothing", 1, "1", 12, -5, api.ErrRange},
		{"too much", 1, "1", 12, mostTotal + 1, api.ErrRange},
		{"the largest number", 1, "1", 12, math.MaxInt, api.ErrRange},
		{"more than what is free", 1, "1", 12, 11, api.ErrFunds},
		{"the most of what is not free", 1, "1", 12, mostTotal, api.ErrFunds},
		{"unknown ahead of ranges", 3, "1", 12, 0, api.ErrUnknown},
		{"more than can be granted", 2, "2", 12, 6, api.ErrLimit},
	} {
		got, e := Grant(x, c.office, c.code, c.year, c.amount)
		refused(t, c.name, got, e, c.want)
	}
	if got, e := Grant(x, 2, "2", 12, 5); e != api.OK || got.Pots[1].Granted[1] != 5 {
		t.Errorf("as much as can be granted: %v, error %d", got, e)
	}
	x.Pots[1].Total--
	x.Pots[1].Heard[0] = mostTotal - 10
	if _, e := Grant(x, 2, "2", 12, mostTotal-5); e != api.ErrFunds {
		t.Errorf("funds ahead of limits: error %d", e)
	}
}

func TestErrorsOfDivide(t *testing.T) {
	x := treasuryOf(2, potOf("1", 12, 10, [4]int{}, [4]int{}), potOf("2", 12, mostTotal, [4]int{mostTotal - 5, mostTotal - 5}, [4]int{}))
	for _, c := range []struct {
		name    string
		code    string
		year    int
		amounts []int
		want    api.Errno
	}{
		{"no such code", "3", 12, []int{1, 1}, api.ErrUnknown},
		{"no such year", "1", 13, []int{1, 1}, api.ErrUnknown},
		{"no amounts", "1", 12, nil, api.ErrUnknown},
		{"an amount too few", "1", 12, []int{1}, api.ErrUnknown},
		{"an amount too many", "1", 12, []int{1, 1, 1}, api.ErrUnknown},
		{"less than nothing", "1", 12, []int{1, -1}, api.ErrRange},
		{"too much", "1", 12, []int{mostTotal + 1, 0}, api.ErrRange},
		{"the ends of numbers", "1", 12, []int{math.MaxInt, math.MaxInt}, api.ErrRange},
		{"more than what is free", "1", 12, []int{5, 6}, api.ErrFunds},
		{"the most of what is not free", "1", 12, []int{mostTotal, mostTotal}, api.ErrFunds},
		{"unknown ahead of ranges", "1", 12, []int{-1}, api.ErrUnknown},
		{"ranges ahead of funds", "1", 12, []int{11, -1}, api.ErrRange},
		{"more than can be granted", "2", 12, []int{3, 3}, api.ErrLimit},
	} {
		got, e := Divide(x, c.code, c.year, c.amounts)
		refused(t, c.name, got, e, c.want)
	}
	if got, e := Divide(x, "2", 12, []int{3, 2}); e != api.OK || !slices.Equal(got.Pots[1].Granted, []int{mostTotal - 2, 2}) {
		t.Errorf("as much as can be granted: %v, error %d", got, e)
	}
}

// P13.4

func TestAsk(t *testing.T) {
	x := treasuryOf(2, potOf("1", 12, 10, [4]int{60, 50, 20, 3}, [4]int{mostTotal - 60}))
	got, e := Ask(x, 1, "1", 12, 1)
	is(t, "a little", got, e, treasuryOf(2, potOf("1", 12, 10, [4]int{60, 50, 21, 3}, [4]int{mostTotal - 60})))
	got, e = Ask(x, 1, "1", 12, 40)
	is(t, "all", got, e, treasuryOf(2, potOf("1", 12, 10, [4]int{60, 50, 60, 3}, [4]int{mostTotal - 60})))
	got, e = Ask(x, 2, "1", 12, mostTotal-60)
	is(t, "all of another office", got, e, treasuryOf(2, potOf("1", 12, 10, [4]int{60, 50, 20, 3}, [4]int{mostTotal - 60, 0, mostTotal - 60})))
	for _, c := range []struct {
		name   string
		office int
		code   string
		year   int
		amount int
		want   api.Errno
	}{
		{"no such code", 1, "2", 12, 5, api.ErrUnknown},
		{"no such year", 1, "1", 11, 5, api.ErrUnknown},
		{"no office", 0, "1", 12, 5, api.ErrUnknown},
		{"an office too many", 3, "1", 12, 5, api.ErrUnknown},
		{"nothing", 1, "1", 12, 0, api.ErrRange},
		{"less than nothing", 1, "1", 12, -1, api.ErrRange},
		{"too much", 1, "1", 12, mostTotal + 1, api.ErrRange},
		{"the largest number", 1, "1", 12, math.MaxInt, api.ErrRange},
		{"more than was granted", 1, "1", 12, 41, api.ErrFunds},
		{"the most of what was not granted", 1, "1", 12, mostTotal, api.ErrFunds},
		{"unknown ahead of ranges", 3, "1", 12, 0, api.ErrUnknown},
	} {
		got, e := Ask(x, c.office, c.code, c.year, c.amount)
		refused(t, c.name, got, e, c.want)
	}
}

func TestTell(t *testing.T) {
	x := treasuryOf(2, potOf("1", 12, 10, [4]int{60, 50, 20, 3}, [4]int{7, 6, 5, 4}), potOf("2", 12, 10, [4]int{}, [4]int{}))
	for _, c := range []struct {
		office int
		code   string
		year   int
		want   api.Message
		e      api.Errno
	}{
		{1, "1", 12, api.Message{To: 1, Code: "1", Year: 12, Granted: 60, Asked: 20}, api.OK},
		{2, "1", 12, api.Message{To: 2, Code: "1", Year: 12, Granted: 7, Asked: 5}, api.OK},
		{2, "2", 12, api.Message{To: 2, Code: "2", Year: 12}, api.OK},
		{0, "1", 12, api.Message{}, api.ErrUnknown},
		{3, "1", 12, api.Message{}, api.ErrUnknown},
		{1, "1", 13, api.Message{}, api.ErrUnknown},
		{1, "3", 12, api.Message{}, api.ErrUnknown},
		{1, "", 12, api.Message{}, api.ErrUnknown},
	} {
		if m, e := Tell(x, c.office, c.code, c.year); m != c.want || e != c.e {
			t.Errorf("to %d of %q in %d: %v, error %d, not %v", c.office, c.code, c.year, m, e, c.want)
		}
	}
}

// P13.5

func TestHear(t *testing.T) {
	x := treasuryOf(2, potOf("1", 12, 10, [4]int{60, 50, 20, 3}, [4]int{7, 6, 5, 4}))
	with := func(o [4]int) api.Treasury { return treasuryOf(2, potOf("1", 12, 10, o, [4]int{7, 6, 5, 4})) }
	for _, c := range []struct {
		name string
		m    api.Message
		want [4]int
		e    api.Errno
	}{
		{"more returned", api.Message{Returned: 55, Used: 5}, [4]int{60, 55, 20, 5}, api.OK},
		{"as much returned", api.Message{Returned: 50, Used: 4}, [4]int{60, 50, 20, 4}, api.OK},
		{"less returned", api.Message{Returned: 49, Used: 0}, [4]int{60, 50, 20, 0}, api.OK},
		{"nothing returned", api.Message{Used: mostTotal}, [4]int{60, 50, 20, mostTotal}, api.OK},
		{"all returned", api.Message{Returned: 60, Used: 1}, [4]int{60, 60, 20, 1}, api.OK},
		{"more than all", api.Message{Returned: 61, Used: 1}, [4]int{}, api.ErrRange},
		{"less than nothing", api.Message{Returned: -1, Used: 1}, [4]int{}, api.ErrRange},
		{"used below 0", api.Message{Returned: 1, Used: -1}, [4]int{}, api.ErrRange},
		{"too much used", api.Message{Returned: 1, Used: mostTotal + 1}, [4]int{}, api.ErrRange},
		{"other numbers do not matter", api.Message{Returned: 51, Used: 5, Granted: 99, Asked: -99}, [4]int{60, 51, 20, 5}, api.OK},
	} {
		c.m.From, c.m.Code, c.m.Year = 1, "1", 12
		got, e := Hear(x, c.m)
		if c.e != api.OK {
			refused(t, c.name, got, e, c.e)
			continue
		}
		is(t, c.name, got, e, with(c.want))
	}
	for _, c := range []struct {
		name string
		m    api.Message
		e    api.Errno
	}{
		{"to an office", api.Message{From: 1, To: 1, Code: "1", Year: 12}, api.ErrInvalid},
		{"to less than an office", api.Message{From: 1, To: -1, Code: "1", Year: 12}, api.ErrInvalid},
		{"to an office, from none", api.Message{From: 0, To: 2, Code: "x"}, api.ErrInvalid},
		{"no such code", api.Message{From: 1, Code: "2", Year: 12}, api.ErrUnknown},
		{"no such year", api.Message{From: 1, Code: "1", Year: 11}, api.ErrUnknown},
		{"from the treasury", api.Message{From: 0, Code: "1", Year: 12}, api.ErrUnknown},
		{"from an office too many", api.Message{From: 3, Code: "1", Year: 12}, api.ErrUnknown},
		{"unknown ahead of ranges", api.Message{From: 3, Code: "1", Year: 12, Used: -1}, api.ErrUnknown},
	} {
		got, e := Hear(x, c.m)
		refused(t, c.name, got, e, c.e)
	}
}

// P13.6

func TestLearn(t *testing.T) {
	r := api.Right{Code: "1", Year: 12, Granted: 60, Asked: 20, Returned: 10}
	for _, c := range []struct {
		name string
		m    api.Message
		want api.Right
		e    api.Errno
	}{
		{"more of both", api.Message{To: 1, Code: "1", Year: 12, Granted: 61, Asked: 21}, api.Right{Code: "1", Year: 12, Granted: 61, Asked: 21, Returned: 10}, api.OK},
		{"as much", api.Message{To: 1, Code: "1", Year: 12, Granted: 60, Asked: 20}, r, api.OK},
		{"less", api.Message{To: 1, Code: "1", Year: 12, Granted: 59, Asked: 19}, r, api.OK},
		{"less asked", api.Message{To: 1, Code: "1", Year: 12, Granted: mostTotal}, api.Right{Code: "1", Year: 12, Granted: mostTotal, Asked: 20, Returned: 10}, api.OK},
		{"less granted", api.Message{To: 1, Code: "1", Year: 12, Asked: mostTotal}, api.Right{Code: "1", Year: 12, Granted: 60, Asked: mostTotal, Returned: 10}, api.OK},
		{"other numbers do not matter", api.Message{To: -9, Code: "1", Year: 12, Granted: 70, Returned: 99, Used: -5}, api.Right{Code: "1", Year: 12, Granted: 70, Asked: 20, Returned: 10}, api.OK},
		{"from an office", api.Message{From: 1, Code: "1", Year: 12, Granted: 61}, api.Right{}, api.ErrInvalid},
		{"from an office below 0", api.Message{From: -1, Code: "1", Year: 12, Granted: 61}, api.Right{}, api.ErrInvalid},
		{"another code", api.Message{Code: "1.1", Year: 12, Granted: 61}, api.Right{}, api.ErrInvalid},
		{"another year", api.Message{Code: "1", Year: 13, Granted: 61}, api.Right{}, api.ErrInvalid},
		{"granted below 0", api.Message{Code: "1", Year: 12, Granted: -1}, api.Right{}, api.ErrRange},
		{"too much granted", api.Message{Code: "1", Year: 12, Granted: mostTotal + 1}, api.Right{}, api.ErrRange},
		{"asked below 0", api.Message{Code: "1", Year: 12, Asked: -1}, api.Right{}, api.ErrRange},
		{"too much asked", api.Message{Code: "1", Year: 12, Asked: mostTotal + 1}, api.Right{}, api.ErrRange},
		{"another year ahead of ranges", api.Message{Code: "1", Year: 13, Asked: -1}, api.Right{}, api.ErrInvalid},
	} {
		if got, e := Learn(r, c.m); got != c.want || e != c.e {
			t.Errorf("%s: %v, error %d, not %v, error %d", c.name, got, e, c.want, c.e)
		}
	}
}

func TestReturnAndWanted(t *testing.T) {
	for _, c := range []struct {
		name                     string
		granted, asked, returned int
		used, amount             int
		wanted                   int
		e                        api.Errno
	}{
		{"the example", 60, 10, 0, 50, 10, 10, api.OK},
		{"a part", 60, 10, 0, 50, 1, 10, api.OK},
		{"more than what is not used", 60, 10, 0, 50, 11, 10, api.ErrFunds},
		{"more than what was asked", 60, 10, 0, 20, 40, 10, api.OK},
		{"asked for more than what is not used", 60, 40, 0, 50, 10, 10, api.OK},
		{"returned before", 60, 40, 15, 20, 25, 25, api.OK},
		{"returned before, more", 60, 40, 15, 20, 26, 25, api.ErrFunds},
		{"returned before, less is wanted", 60, 30, 15, 20, 25, 15, api.OK},
		{"as much returned as asked", 60, 15, 15, 20, 1, 0, api.OK},
		{"more returned than asked", 60, 10, 15, 20, 1, 0, api.OK},
		{"nothing asked", 60, 0, 0, 20, 40, 0, api.OK},
		{"all used", 60, 60, 10, 50, 1, 0, api.ErrFunds},
		{"nothing used", 60, 60, 10, 0, 50, 50, api.OK},
		{"used below 0", 60, 60, 10, -1, 1, 0, api.ErrInvalid},
		{"more used than there is", 60, 60, 10, 51, 0, 0, api.ErrInvalid},
		{"the least number used", 60, 60, 10, math.MinInt, 0, 0, api.ErrInvalid},
		{"the largest number used", 60, 60, 10, math.MaxInt, 0, 0, api.ErrInvalid},
		{"nothing", 60, 60, 10, 0, 0, 50, api.ErrRange},
		{"less than nothing", 60, 60, 10, 0, -1, 50, api.ErrRange},
		{"too much", 60, 60, 10, 0, mostTotal + 1, 50, api.ErrRange},
		{"the largest number", 60, 60, 10, 0, math.MaxInt, 50, api.ErrRange},
		{"the most", mostTotal, mostTotal, 0, 0, mostTotal, mostTotal, api.OK},
		{"ranges ahead of funds", 60, 60, 10, 50, -1, 0, api.ErrRange},
		{"no right at all", 0, 0, 0, 0, 1, 0, api.ErrFunds},
		{"asked for what was never heard of", 0, 5, 0, 0, 1, 0, api.ErrFunds},
	} {
		r := api.Right{Code: "1", Year: 12, Granted: c.granted, Asked: c.asked, Returned: c.returned}
		if got := Wanted(r, c.used); got != c.wanted {
			t.Errorf("%s: %d are wanted, not %d", c.name, got, c.wanted)
		}
		want := r
		want.Returned += c.amount
		if c.e != api.OK {
			want = api.Right{}
		}
		if got, e := Return(r, c.used, c.amount); got != want || e != c.e {
			t.Errorf("%s: %v, error %d, not %v, error %d", c.name, got, e, want, c.e)
		}
	}
}

// The consequences, and P1

func TestExample(t *testing.T) {
	x, _ := Set(treasuryOf(2), "1", 12, 100)
	x, _ = Divide(x, "1", 12, []int{60, 40})
	m, _ := Tell(x, 1, "1", 12)
	r, _ := Learn(api.Right{Code: "1", Year: 12}, m)
	x, _ = Set(x, "1", 12, 90)
	if Shortfall(x.Pots[0]) != 10 {
		t.Errorf("a shortfall of %d", Shortfall(x.Pots[0]))
	}
	x, _ = Ask(x, 1, "1", 12, 10)
	m, _ = Tell(x, 1, "1", 12)
	r, _ = Learn(r, m)
	r, e := Return(r, 50, Wanted(r, 50))
	if want := (api.Right{Code: "1", Year: 12, Granted: 60, Asked: 10, Returned: 10}); r != want || e != api.OK {
		t.Errorf("the right %v, error %d", r, e)
	}
	x, e = Hear(x, api.Message{From: 1, Code: "1", Year: 12, Returned: r.Returned, Used: 50})
	is(t, "the end", x, e, treasuryOf(2, potOf("1", 12, 90, [4]int{60, 10, 10, 50}, [4]int{40})))
	if Shortfall(x.Pots[0]) != 0 || Out(x.Pots[0]) != 90 {
		t.Errorf("a shortfall of %d, out %d", Shortfall(x.Pots[0]), Out(x.Pots[0]))
	}
}

func TestWhatOfficesMayUseIsOut(t *testing.T) {
	r := rand.New(rand.NewSource(131))
	returned, short := 0, 0
	for range 200 {
		n := newNetwork(200)
		for range 120 {
			before := Shortfall(n.treasury.Pots[0])
			total := n.treasury.Pots[0].Total
			n.step(r)
			p := n.treasury.Pots[0]
			together := 0
			for k, right := range n.rights {
				together += right.Granted - right.Returned
				if !Right(right) || n.used[k] > right.Granted-right.Returned {
					t.Fatalf("the right %v, %d are used", right, n.used[k])
				}
				returned += right.Returned
			}
			if !Valid(n.treasury) || together > Out(p) || Out(p) > p.Total+Shortfall(p) || Out(p) != p.Total-Free(p) {
				t.Fatalf("%d may be used, %d are out, of %v", together, Out(p), p)
			}
			if p.Total == total && Shortfall(p) > before {
				t.Fatalf("the shortfall grew from %d to %d", before, Shortfall(p))
			}
			short += Shortfall(p)
		}
	}
	if returned == 0 || short == 0 {
		t.Errorf("%d were returned, %d were missing", returned, short)
	}
}

func TestMessagesInAnyOrder(t *testing.T) {
	r := rand.New(rand.NewSource(132))
	for range 200 {
		x := treasuryOf(2, potOf("1", 12, 10, [4]int{60, 50, 20, 3}, [4]int{70, 6, 5, 4}))
		right := api.Right{Code: "1", Year: 12, Granted: 30, Asked: 10, Returned: 20}
		var from, to []api.Message
		for range 2 + r.Intn(5) {
			from = append(from, api.Message{From: 1 + r.Intn(2), Code: "1", Year: 12, Returned: r.Intn(61), Used: r.Intn(50)})
			to = append(to, api.Message{To: 1, Code: "1", Year: 12, Granted: r.Intn(90), Asked: r.Intn(90)})
		}
		heard, learnt := x, right
		for i := range from {
			heard, _ = Hear(heard, from[i])
			learnt, _ = Learn(learnt, to[i])
		}
		for range 10 {
			i := r.Intn(len(from))
			from, to = append(from, from[i]), append(to, to[i])
		}
		r.Shuffle(len(from), func(i, j int) { from[i], from[j] = from[j], from[i]; to[i], to[j] = to[j], to[i] })
		again, relearnt := x, right
		for i := range from {
			again, _ = Hear(again, from[i])
			relearnt, _ = Learn(relearnt, to[i])
		}
		used := map[int]int{1: 3, 2: 4}
		for _, m := range from {
			used[m.From] = m.Used
		}
		if relearnt != learnt || !slices.Equal(again.Pots[0].Heard, heard.Pots[0].Heard) || !slices.Equal(again.Pots[0].Used, []int{used[1], used[2]}) {
			t.Fatalf("%v and %v, %v and %v", again, heard, relearnt, learnt)
		}
	}
}

func TestArgumentsStayAsTheyAre(t *testing.T) {
	x := treasuryOf(2, potOf("1", 12, 100, [4]int{60, 5, 20, 3}, [4]int{7, 6, 5, 4}), potOf("3", 12, 100, [4]int{1, 1, 1, 1}, [4]int{1, 1, 1, 1}))
	kept, amounts := copyAll(x), []int{1, 2}
	spoil := func(got api.Treasury, e api.Errno) {
		t.Helper()
		if e != api.OK {
			t.Errorf("error %d", e)
		}
		for i := range got.Pots {
			p := &got.Pots[i]
			for _, l := range [][]int{p.Granted, p.Heard, p.Asked, p.Used} {
				for k := range l {
					l[k] = -7
				}
			}
			p.Total = -7
		}
	}
	spoil(Set(x, "1", 12, 5))
	spoil(Set(x, "2", 12, 5))
	spoil(Grant(x, 1, "1", 12, 5))
	spoil(Divide(x, "1", 12, amounts))
	spoil(Ask(x, 1, "1", 12, 5))
	spoil(Hear(x, api.Message{From: 1, Code: "1", Year: 12, Returned: 50, Used: 3}))
	if textOf(x) != textOf(kept) || !slices.Equal(amounts, []int{1, 2}) {
		t.Errorf("an argument was changed: %s", textOf(x))
	}
}
