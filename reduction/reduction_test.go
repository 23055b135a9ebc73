package reduction

import (
	"fmt"
	"math"
	"math/rand"
	"slices"
	"testing"

	"treasury/api"
	"treasury/available"
	"treasury/network"
	"treasury/rights"
)

// P18.1

func TestPlan(t *testing.T) {
	for _, c := range []struct {
		name string
		p    api.Pot
		want []int
	}{
		{"nothing", api.Pot{}, nil},
		{"the example", potOf("1", 12, 55, [4]int{60, 0, 0, 50}, [4]int{40, 0, 0, 10}), []int{10, 30}},
		{"no shortfall", potOf("1", 12, 100, [4]int{60, 0, 0, 50}, [4]int{40, 0, 0, 10}), []int{0, 0}},
		{"more than is out", potOf("1", 12, 101, [4]int{60, 0, 0, 50}, [4]int{40, 0, 0, 10}), []int{0, 0}},
		{"a shortfall of 1", potOf("1", 12, 99, [4]int{60, 0, 0, 50}, [4]int{40, 0, 0, 10}), []int{0, 1}},
		{"all of the one with the most", potOf("1", 12, 70, [4]int{60, 0, 0, 50}, [4]int{40, 0, 0, 10}), []int{0, 30}},
		{"a little of the other one", potOf("1", 12, 69, [4]int{60, 0, 0, 50}, [4]int{40, 0, 0, 10}), []int{1, 30}},
		{"all that is idle", potOf("1", 12, 60, [4]int{60, 0, 0, 50}, [4]int{40, 0, 0, 10}), []int{10, 30}},
		{"a total below 0", potOf("1", 12, -9, [4]int{60, 0, 0, 50}, [4]int{40, 0, 0, 10}), []int{10, 30}},
		{"equal ones", potOf("1", 12, 115, [4]int{40}, [4]int{40}, [4]int{40}), []int{5, 0, 0}},
		{"equal ones, one taken", potOf("1", 12, 75, [4]int{40}, [4]int{40}, [4]int{40}), []int{40, 5, 0}},
		{"equal ones behind a greater one", potOf("1", 12, 110, [4]int{40}, [4]int{41}, [4]int{40}, [4]int{40}), []int{10, 41, 0, 0}},
		{"all are asked", potOf("1", 12, 55, [4]int{60, 0, 10, 50}, [4]int{40, 0, 30, 10}), []int{0, 0}},
		{"a part is asked", potOf("1", 12, 55, [4]int{60, 0, 0, 50}, [4]int{40, 0, 20, 10}), []int{10, 10}},
		{"enough is asked", potOf("1", 12, 90, [4]int{60, 0, 0, 50}, [4]int{40, 0, 20, 10}), []int{0, 0}},
		{"not quite enough is asked", potOf("1", 12, 79, [4]int{60, 0, 0, 50}, [4]int{40, 0, 20, 10}), []int{1, 0}},
		{"asked for what is used", potOf("1", 12, 55, [4]int{60, 0, 60, 50}, [4]int{40, 0, 0, 10}), []int{0, 30}},
		{"asked and returned", potOf("1", 12, 40, [4]int{60, 10, 10, 50}, [4]int{40, 10, 20, 10}), []int{0, 10}},
		{"returned without being asked", potOf("1", 12, 40, [4]int{60, 10, 0, 30}, [4]int{40, 10, 5, 10}), []int{20, 20}},
		{"more used than there is", potOf("1", 12, 40, [4]int{60, 10, 0, 70}, [4]int{40, 0, 0, 10}), []int{0, 30}},
		{"one office", potOf("1", 12, 0, [4]int{mostTotal}), []int{mostTotal}},
		{"more heard than granted", potOf("1", 12, -50, [4]int{10, 30}, [4]int{40, 0}), []int{0, 40}},
		{"ten offices", potOf("x", -1, 0, [4]int{1}, [4]int{2}, [4]int{3}, [4]int{4}, [4]int{5}, [4]int{6}, [4]int{7}, [4]int{8}, [4]int{9}, [4]int{10}), []int{1, 2, 3, 4, 5, 6, 7, 8, 9, 10}},
		{"the least total", potOf("1", 12, -mostTotal, [4]int{5}), []int{5}},
		{"less than it", potOf("1", 12, -mostTotal-1, [4]int{5}), nil},
		{"the largest total", potOf("1", 12, mostTotal, [4]int{5}), []int{0}},
		{"more than it", potOf("1", 12, mostTotal+1, [4]int{5}), nil},
		{"granted below 0", potOf("1", 12, 0, [4]int{5}, [4]int{-1}), nil},
		{"granted too much", potOf("1", 12, 0, [4]int{5}, [4]int{mostTotal + 1}), nil},
		{"heard below 0", potOf("1", 12, 0, [4]int{5}, [4]int{5, -1}), nil},
		{"heard too much", potOf("1", 12, 0, [4]int{5}, [4]int{5, mostTotal + 1}), nil},
		{"asked below 0", potOf("1", 12, 0, [4]int{5}, [4]int{5, 0, -1}), nil},
		{"asked too much", potOf("1", 12, 0, [4]int{5}, [4]int{5, 0, mostTotal + 1}), nil},
		{"used below 0", potOf("1", 12, 0, [4]int{5}, [4]int{5, 0, 0, -1}), nil},
		{"used too much", potOf("1", 12, 0, [4]int{5}, [4]int{5, 0, 0, mostTotal + 1}), nil},
		{"the most of all", potOf("1", 12, 0, [4]int{mostTotal, mostTotal, mostTotal, mostTotal}, [4]int{5}), []int{0, 5}},
		{"the ends of numbers", potOf("1", 12, math.MinInt, [4]int{math.MaxInt}), nil},
	} {
		if got := Plan(c.p); !slices.Equal(got, c.want) {
			t.Errorf("%s: %v, not %v", c.name, got, c.want)
		}
	}
	for i := range 4 {
		p := potOf("1", 12, 0, [4]int{5}, [4]int{5})
		l := []*[]int{&p.Granted, &p.Heard, &p.Asked, &p.Used}[i]
		for _, other := range [][]int{nil, {5}, {5, 0, 0}} {
			*l = other
			if got := Plan(p); len(got) != 0 {
				t.Errorf("the list %d is %v: %v", i, other, got)
			}
		}
	}
}

func TestRandomPlans(t *testing.T) {
	r := rand.New(rand.NewSource(181))
	several := 0
	for range 5000 {
		p := randomPot(r, "1", 12, 1+r.Intn(6))
		if r.Intn(4) == 0 {
			// Plans of pots that are not valid: more was heard, or asked, than was granted.
			k := r.Intn(len(p.Granted))
			p.Heard[k], p.Asked[k] = r.Intn(150), r.Intn(150)
		}
		kept := textOf(treasuryOf(1, p))
		got, want := Plan(p), planOf(p)
		if !slices.Equal(got, want) || textOf(treasuryOf(1, p)) != kept {
			t.Fatalf("%v, not %v, of %s", got, want, kept)
		}
		// It takes at most what is idle, and together at most the shortfall; if enough is idle, the rest.
		sum, open, idle, taken := 0, 0, 0, 0
		for k, n := range got {
			asked, i := idleOf(p, k)
			if n < 0 || n > i {
				t.Fatalf("%d of %d are taken", n, i)
			}
			sum, open, idle = sum+n, open+asked, idle+i
			if n > 0 {
				taken++
			}
		}
		if rest := max(0, rights.Shortfall(p)-open); sum != min(rest, idle) {
			t.Fatalf("%d are taken, the rest is %d, %d are idle: %s", sum, rest, idle, kept)
		}
		if taken > 2 {
			several++
		}
	}
	if several < 200 {
		t.Errorf("only %d plans take from several offices", several)
	}
}

// P18.2

func TestReduce(t *testing.T) {
	other := potOf("2", 12, -4, [4]int{5}, [4]int{5})
	pots := func(p api.Pot) api.Treasury { return treasuryOf(2, p, other) }
	x := pots(potOf("1", 12, 100, [4]int{60, 0, 0, 50}, [4]int{40, 0, 0, 10}))
	got, m, e := Reduce(x, "1", 12, 55)
	is(t, "the example", got, m, e, pots(potOf("1", 12, 55, [4]int{60, 0, 10, 50}, [4]int{40, 0, 30, 10})), toldOf(1, "1", 12, 60, 10), toldOf(2, "1", 12, 40, 30))
	got, m, e = Reduce(got, "1", 12, 55)
	is(t, "once more", got, m, e, pots(potOf("1", 12, 55, [4]int{60, 0, 10, 50}, [4]int{40, 0, 30, 10})))
	got, m, e = Reduce(x, "1", 12, 90)
	is(t, "one is asked", got, m, e, pots(potOf("1", 12, 90, [4]int{60, 0, 0, 50}, [4]int{40, 0, 10, 10})), toldOf(2, "1", 12, 40, 10))
	got, m, e = Reduce(got, "1", 12, 85)
	is(t, "a little more", got, m, e, pots(potOf("1", 12, 85, [4]int{60, 0, 0, 50}, [4]int{40, 0, 15, 10})), toldOf(2, "1", 12, 40, 15))
	got, m, e = Reduce(got, "1", 12, 200)
	is(t, "greater", got, m, e, pots(potOf("1", 12, 200, [4]int{60, 0, 0, 50}, [4]int{40, 0, 15, 10})))
	got, m, e = Reduce(x, "1", 12, mostTotal)
	is(t, "the largest total", got, m, e, pots(potOf("1", 12, mostTotal, [4]int{60, 0, 0, 50}, [4]int{40, 0, 0, 10})))
	got, m, e = Reduce(x, "1", 13, 5)
	is(t, "a new pot", got, m, e, treasuryOf(2, x.Pots[0], potOf("1", 13, 5, [4]int{}, [4]int{}), other))
	got, m, e = Reduce(x, "1", 13, -5)
	is(t, "a new pot below 0", got, m, e, treasuryOf(2, x.Pots[0], potOf("1", 13, -5, [4]int{}, [4]int{}), other))
}

func TestReduceOfWhatWasReturned(t *testing.T) {
	// Office 1 gave back 20 without being asked, office 2 gave back 20 of which 5 were asked, office 3 was asked for all it gave back and 3 more.
	x := treasuryOf(3, potOf("1", 12, 100, [4]int{60, 20, 0, 10}, [4]int{60, 20, 5, 10}, [4]int{60, 20, 23, 10}))
	got, m, e := Reduce(x, "1", 12, 40)
	is(t, "all", got, m, e, treasuryOf(3, potOf("1", 12, 40, [4]int{60, 20, 50, 10}, [4]int{60, 20, 50, 10}, [4]int{60, 20, 40, 10})),
		toldOf(1, "1", 12, 60, 50), toldOf(2, "1", 12, 60, 50), toldOf(3, "1", 12, 60, 40))
	got, m, e = Reduce(x, "1", 12, 116)
	is(t, "a little", got, m, e, treasuryOf(3, potOf("1", 12, 116, [4]int{60, 20, 21, 10}, [4]int{60, 20, 5, 10}, [4]int{60, 20, 23, 10})), toldOf(1, "1", 12, 60, 21))
}

func TestReduceToAGreaterTotalThatIsNotEnough(t *testing.T) {
	x := treasuryOf(1, potOf("1", 12, 10, [4]int{60, 0, 0, 20}))
	got, m, e := Reduce(x, "1", 12, 50)
	is(t, "still too little", got, m, e, treasuryOf(1, potOf("1", 12, 50, [4]int{60, 0, 10, 20})), toldOf(1, "1", 12, 60, 10))
}

func TestErrorsOfReduce(t *testing.T) {
	x := treasuryOf(1, potOf("1", 12, 5, [4]int{}))
	bad, full := copyAll(x), treasuryOf(1)
	bad.Pots[0].Used[0] = -1
	for i := range mostPots {
		full.Pots = append(full.Pots, potOf("1", i, 5, [4]int{}))
	}
	for _, c := range []struct {
		name        string
		x           api.Treasury
		code        string
		year, total int
		want        api.Errno
	}{
		{"no treasury", api.Treasury{}, "1", 12, 5, api.ErrInvalid},
		{"a treasury that is not valid", bad, "x", -1, 5, api.ErrInvalid},
		{"no code", x, "x", -1, 5, api.ErrCode},
		{"no year", x, "1", 100, 5, api.ErrRange},
		{"too large a total", x, "1", 12, mostTotal + 1, api.ErrRange},
		{"too small a total", x, "1", 12, -mostTotal - 1, api.ErrRange},
		{"a pot too many", full, "2", 12, 5, api.ErrLimit},
	} {
		got, m, e := Reduce(c.x, c.code, c.year, c.total)
		refused(t, c.name, got, m, e, c.want)
	}
}

func TestRandomReductions(t *testing.T) {
	r := rand.New(rand.NewSource(182))
	asked := 0
	for range 1500 {
		offices := 1 + r.Intn(6)
		x := treasuryOf(offices, randomPot(r, "1", 11, offices), randomPot(r, "1", 12, offices), randomPot(r, "2", 12, offices))
		kept, total := textOf(x), r.Intn(400)-50
		p, messages := reduceOf(x.Pots[1], total)
		want := copyAll(x)
		want.Pots[1] = p
		got, m, e := Reduce(x, "1", 12, total)
		is(t, kept, got, m, e, want, messages...)
		if !rights.Valid(got) || textOf(x) != kept {
			t.Fatalf("not valid: %s", textOf(got))
		}
		asked += len(m)
		for i := range got.Pots {
			got.Pots[i].Granted[0], got.Pots[i].Heard[0], got.Pots[i].Asked[0], got.Pots[i].Used[0] = -7, -7, -7, -7
		}
		if textOf(x) != kept {
			t.Fatal("the result shares its memory")
		}
	}
	if asked < 500 {
		t.Errorf("only %d were asked", asked)
	}
}

// P18.3

func TestShortfalls(t *testing.T) {
	x := treasuryOf(2, potOf("1", 12, 99, [4]int{60}, [4]int{40}), potOf("1", 13, 100, [4]int{60}, [4]int{40}), potOf("2", 12, 89, [4]int{60, 10}, [4]int{40}), potOf("2.1", 12, -7, [4]int{}, [4]int{}), potOf("10", 0, mostTotal, [4]int{}, [4]int{}))
	want := []api.Line{{Code: "1", Year: 12, Amount: 1}, {Code: "2", Year: 12, Amount: 1}, {Code: "2.1", Year: 12, Amount: 7}}
	if got := Shortfalls(x); !slices.Equal(got, want) {
		t.Errorf("%v", got)
	}
	if got := Shortfalls(treasuryOf(1)); len(got) != 0 {
		t.Errorf("%v of nothing", got)
	}
	x.Pots[4].Used[0] = -1
	if got := Shortfalls(x); len(got) != 0 {
		t.Errorf("%v of what is not valid", got)
	}
	if got := Shortfalls(api.Treasury{Pots: x.Pots}); len(got) != 0 {
		t.Errorf("%v of no offices", got)
	}
}

// P18.4

func TestFollow(t *testing.T) {
	f := factsOf(t, "line 1 12 500; line 1 13 40; line 2.1 12 100; wait 1 12 100 12-06-01; amend 12-02-01 1 line 2.1 12 20")
	f.Carried = []api.Carry{{Day: 4330, Number: 1, Code: "9", Year: 13, Amount: -5}}
	x := treasuryOf(2, potOf("1", 12, 500, [4]int{300, 0, 0, 100}, [4]int{150, 0, 0, 0}), potOf("2.1", 12, 100, [4]int{60, 0, 0, 10}, [4]int{40, 0, 0, 40}), potOf("9", 13, 7, [4]int{3}, [4]int{}))
	kept := textOf(x)
	got, m, e := Follow(x, f, 4329)
	is(t, "before", got, m, e, treasuryOf(2, potOf("1", 12, 400, [4]int{300, 0, 50, 100}, [4]int{150, 0, 0, 0}), x.Pots[1], potOf("9", 13, 0, [4]int{3, 0, 3, 0}, [4]int{})), toldOf(1, "1", 12, 300, 50), toldOf(1, "9", 13, 3, 3))
	got, m, e = Follow(x, f, 4350)
	is(t, "less", got, m, e, treasuryOf(2, potOf("1", 12, 400, [4]int{300, 0, 50, 100}, [4]int{150, 0, 0, 0}), potOf("2.1", 12, 20, [4]int{60, 0, 50, 10}, [4]int{40, 0, 0, 40}), potOf("9", 13, -5, [4]int{3, 0, 3, 0}, [4]int{})),
		toldOf(1, "1", 12, 300, 50), toldOf(1, "2.1", 12, 60, 50), toldOf(1, "9", 13, 3, 3))
	got, m, e = Follow(got, f, 4470)
	is(t, "more", got, m, e, treasuryOf(2, potOf("1", 12, 500, [4]int{300, 0, 50, 100}, [4]int{150, 0, 0, 0}), potOf("2.1", 12, 20, [4]int{60, 0, 50, 10}, [4]int{40, 0, 0, 40}), potOf("9", 13, -5, [4]int{3, 0, 3, 0}, [4]int{})))
	if textOf(x) != kept {
		t.Error("an argument was changed")
	}
	got, m, e = Follow(treasuryOf(3), f, -1)
	is(t, "no pots, no day", got, m, e, treasuryOf(3))
}

func TestErrorsOfFollow(t *testing.T) {
	good := factsOf(t, "line 1 12 500")
	lines := factsOf(t, "line 1 12 500")
	lines.Law.Lines[0].Year = 11
	carried := factsOf(t, "")
	carried.Carried = make([]api.Carry, 61)
	crowded := crowdedFacts(t)
	x := treasuryOf(1, potOf("1", 12, 5, [4]int{}), potOf("2.1", 13, 5, [4]int{}))
	with := func(code string, year int) api.Treasury {
		return treasuryOf(1, potOf("1", 12, 5, [4]int{}), potOf(code, year, 5, [4]int{}), potOf("99", 99, 5, [4]int{}))
	}
	for _, c := range []struct {
		name string
		x    api.Treasury
		f    api.Facts
		day  int
		want api.Errno
	}{
		{"no treasury", api.Treasury{}, lines, 4330, api.ErrInvalid},
		{"a treasury that is not valid", treasuryOf(1, potOf("x", 12, 5, [4]int{})), good, 4330, api.ErrInvalid},
		{"no facts", x, api.Facts{}, 4330, api.ErrRange},
		{"a line of another year", with("3", 12), lines, 4330, api.ErrYear},
		{"no facts, no pots", treasuryOf(1), lines, 4330, api.ErrYear},
		{"too much carried", with("3", 12), carried, -1, api.ErrLimit},
		{"a code that is not there", with("3", 12), good, 4330, api.ErrCode},
		{"a code with others under it", with("2", 13), good, 4330, api.ErrCode},
		{"a year that is not there", with("1", 14), good, 4330, api.ErrYear},
		{"codes ahead of years", with("3", 14), good, 4330, api.ErrCode},
		{"no day", x, good, -1, api.ErrRange},
		{"a day too large", x, good, 36001, api.ErrRange},
		{"a code that is not there, on no day", treasuryOf(1, potOf("3", 12, 5, [4]int{})), good, -1, api.ErrCode},
		{"a code that is not there behind another pot, on no day", with("3", 12), good, -1, api.ErrRange},
		{"a year that is not there, on no day", treasuryOf(1, potOf("1", 14, 5, [4]int{})), good, -1, api.ErrYear},
		{"too many lines in force", x, crowded, 4330, api.ErrLimit},
		{"a code that is not there, too many lines in force", treasuryOf(1, potOf("99", 12, 5, [4]int{})), crowded, 4330, api.ErrCode},
	} {
		got, m, e := Follow(c.x, c.f, c.day)
		refused(t, c.name, got, m, e, c.want)
	}
}

// crowdedFacts returns facts in which an amendment on the day 4330 adds more lines than there may be.
func crowdedFacts(t *testing.T) api.Facts {
	l := api.Law{First: 12, Years: 4}
	for i := range 31 {
		code := fmt.Sprint(i + 1)
		l.Tree = append(l.Tree, api.Heading{Code: code, Name: "x"})
		for year := 12; year < 16 && len(l.Lines) < 120; year++ {
			l.Lines = append(l.Lines, api.Line{Code: code, Year: year, Amount: 1})
		}
	}
	l.Amendments = []api.Amendment{{Day: 4330, Number: 1, Changes: []api.Change{{Kind: api.ChangeLine, Code: "31", Year: 12, Amount: 1}}}}
	f := api.Facts{Law: l}
	if e := available.Check(f); e != api.OK {
		t.Fatalf("error %d", e)
	}
	return f
}

func TestFollowIsReduceOfEachPot(t *testing.T) {
	r := rand.New(rand.NewSource(183))
	codes := []string{"1", "2.1", "9"}
	for range 100 {
		f := factsOf(t, "line 1 12 100; line 1 13 80; line 2.1 12 120; earmark 9 1 50; wait 1 12 60 12-06-01; amend 12-02-01 1 line 2.1 12 20")
		for i := range r.Intn(10) {
			f.Receipts = append(f.Receipts, api.Receipt{Day: 4320 + 20*i, Number: 1, Code: "9", Amount: 1 + r.Intn(50)})
			f.Carried = append(f.Carried, api.Carry{Day: 4320 + 20*i, Number: 1, Code: codes[r.Intn(3)], Year: 12 + r.Intn(2), Amount: 1 + r.Intn(30) - 40*r.Intn(2)})
		}
		f.Carried = slices.DeleteFunc(f.Carried, func(c api.Carry) bool { return c.Amount == 0 })
		x := treasuryOf(3)
		for _, code := range codes {
			for year := 12; year <= 13; year++ {
				if r.Intn(3) > 0 {
					x.Pots = append(x.Pots, randomPot(r, code, year, 3))
				}
			}
		}
		day := 4320 + r.Intn(300)
		want := treasuryOf(3)
		var messages []api.Message
		for _, p := range x.Pots {
			total, e := available.Amount(f, p.Code, p.Year, day)
			if e != api.OK {
				t.Fatalf("error %d", e)
			}
			p, m := reduceOf(p, total)
			want.Pots, messages = append(want.Pots, p), append(messages, m...)
		}
		kept := textOf(x)
		got, m, e := Follow(x, f, day)
		is(t, kept, got, m, e, want, messages...)
		for i := range got.Pots {
			got.Pots[i].Asked[0] = -7
		}
		if textOf(x) != kept {
			t.Fatal("the result shares its memory")
		}
	}
}

// P18.5

func TestRecallAndRest(t *testing.T) {
	w := worldOf(t, 100, [2]int{60, 40}, [2]int{50, 10})
	got, e := Recall(w, "1", 12, 55)
	if e != api.OK || !network.Safe(got) {
		t.Errorf("error %d, safe %v", e, network.Safe(got))
	}
	if used, short := Rest(got, "1", 12); used != 5 || short != 5 {
		t.Errorf("%d are used above the total, the shortfall is %d", used, short)
	}
	want := potOf("1", 12, 55, [4]int{60, 10, 10, 50}, [4]int{40, 30, 30, 10})
	if p, _ := rights.Pot(got.Treasury, "1", 12); textOf(treasuryOf(2, p)) != textOf(treasuryOf(2, want)) {
		t.Errorf("the pot %v", p)
	}
	// An office hears of a pot once when the world calms down, and once more when it is asked.
	var kinds []int
	for _, op := range got.Journals[1].Records {
		kinds = append(kinds, op.Kind)
	}
	if !slices.Equal(kinds, []int{api.OpHear, api.OpReserve, api.OpHear, api.OpHear, api.OpReturn}) || len(got.Mail) != 0 {
		t.Errorf("the records of office 2: %v, mail %v", got.Journals[1].Records, got.Mail)
	}
	if used, short := Rest(w, "1", 12); used != 0 || short != 0 {
		t.Errorf("before: %d, %d", used, short)
	}
	w.Treasury.Pots[0].Total = 58
	if used, short := Rest(w, "1", 12); used != 2 || short != 42 {
		t.Errorf("a lesser total: %d, %d", used, short)
	}
	for _, c := range []struct {
		code string
		year int
	}{{"2", 12}, {"1", 13}, {"", 0}} {
		if used, short := Rest(w, c.code, c.year); used != 0 || short != 0 {
			t.Errorf("no pot %q in %d: %d, %d", c.code, c.year, used, short)
		}
	}
	w.Treasury.Pots[0].Used[0] = -1
	if used, short := Rest(w, "1", 12); used != 0 || short != 0 {
		t.Errorf("a world that is not valid: %d, %d", used, short)
	}
}

func TestErrorsOfRecall(t *testing.T) {
	w := worldOf(t, 100, [2]int{60, 40}, [2]int{50, 10})
	for _, c := range []struct {
		name        string
		w           api.World
		code        string
		year, total int
		want        api.Errno
	}{
		{"no world", api.World{}, "x", -1, 5, api.ErrInvalid},
		{"no code", w, "x", -1, 5, api.ErrCode},
		{"no year", w, "1", -1, 5, api.ErrRange},
		{"too large a total", w, "1", 12, mostTotal + 1, api.ErrRange},
	} {
		got, e := Recall(c.w, c.code, c.year, c.total)
		if e != c.want || !network.Same(got, api.World{}) {
			t.Errorf("%s: %v, error %d, not %d", c.name, got, e, c.want)
		}
	}
	got, e := Recall(w, "2", 12, 7)
	if p, found := rights.Pot(got.Treasury, "2", 12); e != api.OK || !found || p.Total != 7 {
		t.Errorf("a new pot: %v, error %d", p, e)
	}
}

func TestRandomRecalls(t *testing.T) {
	r := rand.New(rand.NewSource(184))
	short := 0
	for range 300 {
		w := randomWorld(r)
		for _, p := range w.Treasury.Pots {
			total := r.Intn(120) - 10
			before := usedOf(w, p.Code, p.Year)
			kept := fmt.Sprint(w)
			got, e := Recall(w, p.Code, p.Year, total)
			if e != api.OK || !network.Safe(got) || fmt.Sprint(w) != kept {
				t.Fatalf("error %d, safe %v", e, network.Safe(got))
			}
			used, shortfall := Rest(got, p.Code, p.Year)
			pot, _ := rights.Pot(got.Treasury, p.Code, p.Year)
			if used != max(0, usedOf(got, p.Code, p.Year)-total) || shortfall != rights.Shortfall(pot) || shortfall != used || pot.Total != total {
				t.Fatalf("%d are used above the total, the shortfall is %d, of %v", used, shortfall, pot)
			}
			// Nothing that was used is lost; what was on its way only lets offices hear more.
			if usedOf(got, p.Code, p.Year) != before {
				t.Fatalf("%d were used, and %d are", before, usedOf(got, p.Code, p.Year))
			}
			if shortfall > 0 {
				short++
			}
		}
	}
	if short < 20 {
		t.Errorf("only %d have a shortfall", short)
	}
}
