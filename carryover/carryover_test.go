package carryover

import (
	"fmt"
	"math"
	"math/rand"
	"slices"
	"testing"

	"treasury/api"
	"treasury/classification"
)

// The limits are written out here as the document has them, so that a wrong one shows.
const (
	mostAmount  = 1000000000000
	mostTotal   = 1000000000000000
	mostNumber  = 1000000
	mostOffices = 6
	mostCarried = 60
	lastOfYears = 100
)

// open is an open commitment of year 12.
func open(office, commitment int, code string, amount int) api.Open {
	return api.Open{Office: office, Commitment: commitment, Code: code, Year: 12, Amount: amount}
}

func left(code string, amount int) api.Left { return api.Left{Code: code, Amount: amount} }

func carry(number, year int, code string, amount int) api.Carry {
	return api.Carry{Number: number, Day: 360 * year, Code: code, Year: year, Amount: amount}
}

// crowd returns so many open commitments.
func crowd(n int) []api.Open {
	var l []api.Open
	for i := range n {
		l = append(l, open(1, i+1, "1", mostAmount))
	}
	return l
}

// rests returns so many codes of which something is left.
func rests(n int) []api.Left {
	var l []api.Left
	for i := range n {
		l = append(l, left(fmt.Sprint(i+1), 5))
	}
	return l
}

func same(a, b api.Carried) bool {
	return slices.Equal(a.Carried, b.Carried) && slices.Equal(a.Short, b.Short) && slices.Equal(a.Lapsed, b.Lapsed)
}

// P42.1

func TestCheck(t *testing.T) {
	good := open(1, 1, "1", 1)
	last := api.Open{Office: mostOffices, Commitment: mostNumber, Code: "99.99.99.99", Year: lastOfYears, Amount: mostAmount}
	zero := good
	zero.Year = 0
	for _, c := range []struct {
		l    []api.Open
		left []api.Left
		want api.Errno
	}{
		{nil, nil, api.OK}, {[]api.Open{good}, nil, api.OK}, {[]api.Open{last}, []api.Left{left("3.9", 0), left("3.10", mostTotal)}, api.OK}, {[]api.Open{zero}, nil, api.OK}, {crowd(mostCarried), rests(mostCarried), api.OK},
		{[]api.Open{good, open(1, 2, "1", 1), open(2, 1, "1", 1)}, nil, api.OK}, {[]api.Open{open(2, 1, "2", 1), good}, nil, api.OK}, {nil, []api.Left{left("", 5), left("x", 5), left("1", 5)}, api.OK},
		{crowd(mostCarried + 1), nil, api.ErrLimit}, {nil, rests(mostCarried + 1), api.ErrLimit}, {make([]api.Open, mostCarried+1), nil, api.ErrLimit}, {[]api.Open{{}}, make([]api.Left, mostCarried+1), api.ErrLimit},
		{[]api.Open{good, good}, nil, api.ErrCarry}, {[]api.Open{good, open(2, 1, "1", 1), open(1, 1, "2", 7)}, nil, api.ErrCarry}, {[]api.Open{good, {Office: 1, Commitment: 2, Code: "1", Year: 13, Amount: 1}}, nil, api.ErrCarry},
		{nil, []api.Left{left("1", -1)}, api.ErrCarry}, {nil, []api.Left{left("1", mostTotal+1)}, api.ErrCarry}, {nil, []api.Left{left("1", 5), left("1", 5)}, api.ErrCarry}, {nil, []api.Left{left("3.10", 5), left("3.9", 5)}, api.ErrCarry}, {nil, []api.Left{left("1", 5), left("", 5)}, api.ErrCarry}, {nil, []api.Left{left("1", math.MinInt)}, api.ErrCarry},
	} {
		checks(t, c.l, c.left, c.want)
	}
	for _, change := range []func(x *api.Open){
		func(x *api.Open) { x.Office = 0 }, func(x *api.Open) { x.Office = mostOffices + 1 }, func(x *api.Open) { x.Commitment = 0 }, func(x *api.Open) { x.Commitment = mostNumber + 1 }, func(x *api.Open) { x.Code = "" }, func(x *api.Open) { x.Code = "1.0" },
		func(x *api.Open) { x.Year = -1 }, func(x *api.Open) { x.Year = lastOfYears + 1 }, func(x *api.Open) { x.Amount = 0 }, func(x *api.Open) { x.Amount = -1 }, func(x *api.Open) { x.Amount = mostAmount + 1 }, func(x *api.Open) { *x = api.Open{} },
	} {
		x := good
		change(&x)
		checks(t, []api.Open{x}, nil, api.ErrCarry)
		if got, e := Lines(api.Carried{Carried: []api.Open{good, x}}, 13); e != api.ErrCarry || len(got) > 0 {
			t.Errorf("%v: %v, error %d", x, got, e)
		}
	}
}

// checks fails unless open commitments and what is left have an error.
func checks(t *testing.T, l []api.Open, left []api.Left, want api.Errno) {
	t.Helper()
	if e := Check(l, left); e != want {
		t.Errorf("%v, %v: error %d, not %d", l, left, e, want)
	}
	got, e := Carry(l, left)
	if e != want || e != api.OK && !same(got, api.Carried{}) {
		t.Errorf("%v, %v, Carry: %v, error %d, not %d", l, left, got, e, want)
	}
	if Right(l, left, got) != (want == api.OK) {
		t.Errorf("%v, %v: right", l, left)
	}
}

func TestCarry(t *testing.T) {
	for _, c := range []struct {
		name string
		l    []api.Open
		left []api.Left
		want api.Carried
	}{
		{"nothing", nil, nil, api.Carried{}},
		{"the example", []api.Open{open(1, 1, "1", 6), open(1, 2, "1", 7)}, []api.Left{left("1", 10)}, api.Carried{Carried: []api.Open{open(1, 1, "1", 6), open(1, 2, "1", 4)}, Short: []api.Open{open(1, 2, "1", 3)}}},
		{"by offices and commitments", []api.Open{open(2, 1, "1", 6), open(1, 9, "1", 7), open(1, 3, "1", 5)}, []api.Left{left("1", 13)}, api.Carried{Carried: []api.Open{open(1, 3, "1", 5), open(1, 9, "1", 7), open(2, 1, "1", 1)}, Short: []api.Open{open(2, 1, "1", 5)}}},
		{"by codes", []api.Open{open(1, 1, "3.10", 6), open(2, 2, "3.9", 7), open(1, 3, "3.10", 8)}, []api.Left{left("3.9", 9), left("3.10", 6)}, api.Carried{Carried: []api.Open{open(2, 2, "3.9", 7), open(1, 1, "3.10", 6)}, Short: []api.Open{open(1, 3, "3.10", 8)}, Lapsed: []api.Left{left("3.9", 2)}}},
		{"nothing left of the code", []api.Open{open(1, 1, "1", 6), open(1, 2, "2", 6)}, []api.Left{left("2", 0), left("3", 9)}, api.Carried{Short: []api.Open{open(1, 1, "1", 6), open(1, 2, "2", 6)}, Lapsed: []api.Left{left("3", 9)}}},
		{"nothing left of a code above", []api.Open{open(1, 1, "1.1", 6)}, []api.Left{left("1", 9)}, api.Carried{Short: []api.Open{open(1, 1, "1.1", 6)}, Lapsed: []api.Left{left("1", 9)}}},
		{"just all", []api.Open{open(1, 1, "1", 6)}, []api.Left{left("1", 6)}, api.Carried{Carried: []api.Open{open(1, 1, "1", 6)}}},
		{"what is left alone", nil, []api.Left{left("x", 4), left("1", 0), left("2", mostTotal)}, api.Carried{Lapsed: []api.Left{left("x", 4), left("2", mostTotal)}}},
	} {
		kept := fmt.Sprint(c.l, c.left)
		got, e := Carry(c.l, c.left)
		if e != api.OK || !same(got, c.want) || kept != fmt.Sprint(c.l, c.left) || !Right(c.l, c.left, c.want) {
			t.Errorf("%s: %v, error %d, not %v", c.name, got, e, c.want)
		}
		for _, wrong := range []api.Carried{
			{Carried: append(slices.Clone(c.want.Carried), open(1, 1, "1", 1)), Short: c.want.Short, Lapsed: c.want.Lapsed},
			{Carried: c.want.Carried, Short: append(slices.Clone(c.want.Short), open(1, 1, "1", 1)), Lapsed: c.want.Lapsed},
			{Carried: c.want.Carried, Short: c.want.Short, Lapsed: append(slices.Clone(c.want.Lapsed), left("1", 1))},
		} {
			if Right(c.l, c.left, wrong) {
				t.Errorf("%s: %v is right", c.name, wrong)
			}
		}
	}
}

func TestSum(t *testing.T) {
	l := []api.Open{open(1, 1, "1", 1), open(1, 1, "1.1", 2), open(0, 0, "1.10", 4), open(1, 3, "2", 8), open(1, 3, "10", 16), open(1, 3, "", 32), {Code: "1.1.1", Amount: -64}}
	for code, want := range map[string]int{"1": 1 + 2 + 4 - 64, "1.1": 2 - 64, "2": 8, "3": 0, "": 0, "1.": 0, "10": 16, "1.1.1.1": 0} {
		if got := Sum(l, code); got != want {
			t.Errorf("%q: %d, not %d", code, got, want)
		}
	}
	if got := Sum([]api.Open{open(1, 1, "1", math.MaxInt), open(1, 1, "1", 1)}, "1"); got != math.MinInt {
		t.Errorf("%d", got)
	}
}

// P42.2

func TestLines(t *testing.T) {
	c := api.Carried{Carried: []api.Open{open(1, 1, "3.10", 6), open(2, 2, "3.9", 7), open(1, 1, "3.10", 8), {Office: 1, Commitment: 3, Code: "1", Year: 5, Amount: 4}}, Short: []api.Open{{}}, Lapsed: []api.Left{left("", -5)}}
	for _, year := range []int{1, 13, lastOfYears} {
		kept := fmt.Sprint(c)
		want := []api.Carry{carry(1, year, "1", 4), carry(2, year, "3.9", 7), carry(3, year, "3.10", 14)}
		if got, e := Lines(c, year); e != api.OK || !slices.Equal(got, want) || kept != fmt.Sprint(c) {
			t.Errorf("year %d: %v, error %d, not %v", year, got, e, want)
		}
	}
	if got, e := Lines(api.Carried{}, 5); e != api.OK || len(got) > 0 {
		t.Errorf("%v, error %d", got, e)
	}
	var many []api.Open
	for i := range mostCarried {
		many = append(many, open(1, i+1, fmt.Sprint(i+1), mostAmount))
	}
	if got, e := Lines(api.Carried{Carried: many}, 5); e != api.OK || len(got) != mostCarried || got[59] != carry(60, 5, "60", mostAmount) {
		t.Errorf("%d, error %d", len(got), e)
	}
	for _, c := range []struct {
		l    []api.Open
		year int
		want api.Errno
	}{
		{make([]api.Open, mostCarried+1), 0, api.ErrRange}, {nil, -1, api.ErrRange}, {nil, lastOfYears + 1, api.ErrRange}, {nil, math.MaxInt, api.ErrRange}, {make([]api.Open, mostCarried+1), 1, api.ErrLimit}, {append(crowd(2), api.Open{}), 1, api.ErrCarry}, {crowd(2), 1, api.ErrRange}, {[]api.Open{open(1, 1, "1", mostAmount), open(1, 2, "1", 1)}, 1, api.ErrRange}, {[]api.Open{open(1, 1, "1", mostAmount-1), open(1, 2, "1", 1)}, 1, api.OK},
	} {
		if got, e := Lines(api.Carried{Carried: c.l}, c.year); e != c.want || e != api.OK && len(got) > 0 {
			t.Errorf("%d in %d: %v, error %d, not %d", len(c.l), c.year, got, e, c.want)
		}
	}
}

// The consequences

func TestRandomCarries(t *testing.T) {
	r := rand.New(rand.NewSource(421))
	codes := []string{"1", "1.1", "1.2", "2", "3.9", "3.10"}
	for range 1000 {
		var l []api.Open
		for _, i := range r.Perm(24)[:r.Intn(12)] {
			l = append(l, open(1+i/6, 1+i%6, codes[r.Intn(len(codes))], 1+r.Intn(20)))
		}
		var rest []api.Left
		for _, code := range codes {
			if r.Intn(3) > 0 {
				rest = append(rest, left(code, r.Intn(60)))
			}
		}
		c, e := Carry(l, rest)
		if e != api.OK || !Right(l, rest, c) {
			t.Fatalf("%v, error %d", c, e)
		}
		for _, code := range codes {
			was, lapses, opened, carried, short := 0, 0, 0, 0, 0
			for _, x := range rest {
				if x.Code == code {
					was = x.Amount
				}
			}
			for _, x := range c.Lapsed {
				if x.Code == code {
					lapses = x.Amount
				}
			}
			for _, x := range l {
				if x.Code == code {
					opened += x.Amount
				}
			}
			for _, x := range c.Carried {
				if x.Code == code {
					carried += x.Amount
				}
			}
			for _, x := range c.Short {
				if x.Code == code {
					short += x.Amount
				}
			}
			if carried+lapses != was || carried+short != opened || lapses > 0 && short > 0 {
				t.Fatalf("%s: %d carried, %d lapse of %d, %d short of %d", code, carried, lapses, was, short, opened)
			}
		}
		ascends := func(a, b api.Open) int {
			return 1000*classification.Compare(a.Code, b.Code) + 10*(a.Office-b.Office) + a.Commitment - b.Commitment
		}
		if !slices.IsSortedFunc(c.Carried, ascends) || !slices.IsSortedFunc(c.Short, ascends) {
			t.Fatalf("%v", c)
		}
		lines, e := Lines(c, 13)
		sum := 0
		for i, x := range lines {
			sum += x.Amount
			if x.Number != i+1 || i > 0 && classification.Compare(lines[i-1].Code, x.Code) >= 0 {
				t.Fatalf("%v", lines)
			}
		}
		if e != api.OK || sum != Sum(c.Carried, "1")+Sum(c.Carried, "2")+Sum(c.Carried, "3") {
			t.Fatalf("%v, error %d", lines, e)
		}
	}
}
