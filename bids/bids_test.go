package bids

import (
	"math"
	"math/rand"
	"slices"
	"strings"
	"testing"

	"treasury/api"
)

// The limits are written out here as the document has them, so that a wrong one shows.
const (
	mostHolders = 40
	mostBid     = 1000000000
	mostPrice   = 200000
	mostBids    = 60
	mostText    = 12000
)

func bid(bidder, number, amount, price int) api.Bid {
	return api.Bid{Bidder: bidder, Number: number, Amount: amount, Price: price}
}

func free(bidder, number, amount int) api.Bid {
	return api.Bid{Bidder: bidder, Number: number, Amount: amount, Free: true}
}

// crowd returns so many bids, in order.
func crowd(n int) []api.Bid {
	var l []api.Bid
	for i := range n {
		l = append(l, bid(i/mostHolders+1, i%mostHolders+1, 1000, 5))
	}
	return l
}

// P31.1

func TestValid(t *testing.T) {
	good := []api.Bid{bid(1, 1, 1000, 1), bid(mostHolders, mostHolders, mostBid, mostPrice), free(1, 1, 1000), free(3, 2, mostBid)}
	for _, b := range good {
		if !Valid(b) || Check([]api.Bid{b}) != api.OK {
			t.Errorf("%v", b)
		}
	}
	for _, b := range []api.Bid{
		bid(0, 1, 1000, 1), bid(mostHolders+1, 1, 1000, 1), bid(1, 0, 1000, 1), bid(1, mostHolders+1, 1000, 1),
		bid(1, 1, 0, 1), bid(1, 1, 999, 1), bid(1, 1, 1001, 1), bid(1, 1, 1500, 1), bid(1, 1, mostBid+1000, 1), bid(1, 1, -1000, 1), bid(1, 1, math.MinInt, 1),
		bid(1, 1, 1000, 0), bid(1, 1, 1000, -1), bid(1, 1, 1000, mostPrice+1), {Bidder: 1, Number: 1, Amount: 1000, Price: 5, Free: true}, {Bidder: 1, Number: 1, Amount: 1000, Price: -1, Free: true},
		free(0, 1, 1000), free(1, 0, 1000), free(1, 1, 0), {},
	} {
		if Valid(b) {
			t.Errorf("%v", b)
		}
		if e := Check(append(slices.Clone(good), b)); e != api.ErrBid {
			t.Errorf("%v, Check: error %d", b, e)
		}
		if got, e := Line(b); e != api.ErrBid || got != "" {
			t.Errorf("%v, Line: %q, error %d", b, got, e)
		}
		if got, e := Format([]api.Bid{good[0], b}); e != api.ErrBid || got != "" {
			t.Errorf("%v, Format: %q, error %d", b, got, e)
		}
	}
}

func TestCheck(t *testing.T) {
	for _, c := range []struct {
		name string
		l    []api.Bid
		want api.Errno
	}{
		{"none", nil, api.OK},
		{"60", crowd(mostBids), api.OK},
		{"61", crowd(mostBids + 1), api.ErrLimit},
		{"61 that are not valid", make([]api.Bid, mostBids+1), api.ErrLimit},
		{"twice", []api.Bid{bid(1, 1, 1000, 1), free(1, 1, 2000)}, api.ErrDuplicate},
		{"twice, not side by side", []api.Bid{bid(2, 1, 1000, 1), bid(1, 1, 1000, 1), bid(2, 1, 1000, 1)}, api.ErrDuplicate},
		{"twice, and not valid", []api.Bid{bid(1, 1, 1000, 1), bid(1, 1, 1000, 0)}, api.ErrBid},
		{"in no order", []api.Bid{bid(2, 2, 1000, 1), bid(1, 2, 1000, 1), bid(2, 1, 1000, 1), bid(1, 1, 1000, 1)}, api.OK},
	} {
		if e := Check(c.l); e != c.want {
			t.Errorf("%s: error %d, not %d", c.name, e, c.want)
		}
		if got, e := Format(c.l); e != c.want || e != api.OK && got != "" {
			t.Errorf("%s, Format: %q, error %d, not %d", c.name, got, e, c.want)
		}
	}
}

func TestBeforeAndSort(t *testing.T) {
	l := []api.Bid{bid(math.MinInt, 9, 0, 0), bid(-1, 5, 7, 7), bid(0, 0, 1, 0), bid(1, 1, 9000, 3), bid(1, 2, 1000, 5), bid(2, 1, 5, 5), bid(math.MaxInt, math.MinInt, 0, 0)}
	for i, a := range l {
		for j, b := range l {
			if Before(a, b) != (i < j) {
				t.Errorf("%v and %v: %v", a, b, Before(a, b))
			}
		}
	}
	if Before(bid(1, 1, 5, 5), bid(1, 1, 6, 6)) || Before(bid(1, 1, 6, 6), bid(1, 1, 5, 5)) {
		t.Error("bids of one place")
	}
	r := rand.New(rand.NewSource(311))
	for range 50 {
		mixed := slices.Clone(l)
		r.Shuffle(len(mixed), func(i, j int) { mixed[i], mixed[j] = mixed[j], mixed[i] })
		kept := slices.Clone(mixed)
		if got := Sort(mixed); !slices.Equal(got, l) || !slices.Equal(kept, mixed) {
			t.Fatalf("%v: %v", mixed, got)
		}
	}
	equal := []api.Bid{bid(2, 1, 1, 0), bid(1, 1, 2, 0), bid(2, 1, 3, 0), bid(1, 1, 4, 0), bid(2, 1, 5, 0)}
	if got := Sort(equal); !slices.Equal(got, []api.Bid{equal[1], equal[3], equal[0], equal[2], equal[4]}) {
		t.Errorf("%v", got)
	}
	one := []api.Bid{bid(1, 1, 1, 1)}
	Sort(one)[0].Amount = 9
	if one[0].Amount != 1 || len(Sort(nil)) != 0 {
		t.Error("memory is shared")
	}
}

func TestTotal(t *testing.T) {
	l := []api.Bid{bid(1, 1, 1000, 1), bid(1, 1, 2000, 9), free(2, 1, 4000), bid(3, 1, 8000, 0), free(3, 0, 16000), free(4, 4, 32000)}
	if got := [2]int{Total(l, false), Total(l, true)}; got != [2]int{3000, 36000} {
		t.Errorf("%v", got)
	}
	if Total(nil, true) != 0 {
		t.Error("nothing")
	}
}

// P31.2

func TestLine(t *testing.T) {
	for want, b := range map[string]api.Bid{
		"3 1 5000 99500":          bid(3, 1, 5000, 99500),
		"1 40 1000000000 200000":  bid(1, mostHolders, mostBid, mostPrice),
		"40 10 1000 1":            bid(mostHolders, 10, 1000, 1),
		"7 2 1000 free":           free(7, 2, 1000),
		"40 40 1000000000 free":   free(mostHolders, mostHolders, mostBid),
		"10 20 3000000 100000":    bid(10, 20, 3000000, 100000),
		"1 1 999999000 99999":     bid(1, 1, 999999000, 99999),
		"21 30 10000 150000":      bid(21, 30, 10000, 150000),
		"11 11 11000 11":          bid(11, 11, 11000, 11),
		"2 3 4000 5":              bid(2, 3, 4000, 5),
		"9 9 9000 9":              bid(9, 9, 9000, 9),
		"12 34 56000 7":           bid(12, 34, 56000, 7),
		"40 1 1000 200000":        bid(40, 1, 1000, 200000),
		"1 40 1000 free":          free(1, 40, 1000),
		"5 5 5000 free":           free(5, 5, 5000),
		"33 22 1000000000 123456": bid(33, 22, 1000000000, 123456),
	} {
		if got, e := Line(b); e != api.OK || got != want {
			t.Errorf("%v: %q, error %d", b, got, e)
		}
		if got, n, e := Parse(want + "\n"); e != api.OK || n != 0 || !slices.Equal(got, []api.Bid{b}) {
			t.Errorf("%q: %v, %d, error %d", want, got, n, e)
		}
	}
}

func TestFormatAndParse(t *testing.T) {
	l := []api.Bid{bid(10, 1, 1000, 5), free(2, 3, 4000), bid(2, 1, 9000, 10)}
	kept := slices.Clone(l)
	const want = "2 1 9000 10\n2 3 4000 free\n10 1 1000 5\n"
	if got, e := Format(l); e != api.OK || got != want || !slices.Equal(kept, l) {
		t.Errorf("%q, error %d", got, e)
	}
	if got, n, e := Parse(want); e != api.OK || n != 0 || !slices.Equal(got, Sort(l)) {
		t.Errorf("%v, %d, error %d", got, n, e)
	}
	for _, l := range [][]api.Bid{nil, crowd(mostBids)} {
		text, e := Format(l)
		got, n, e2 := Parse(text)
		if e != api.OK || e2 != api.OK || n != 0 || !slices.Equal(got, l) || strings.Count(text, "\n") != len(l) {
			t.Errorf("%d bids: %v, %d, errors %d and %d", len(l), got, n, e, e2)
		}
	}
}

func TestErrorsOfParse(t *testing.T) {
	const good = "2 1 9000 10\n"
	sixty, _ := Format(crowd(mostBids))
	for _, c := range []struct {
		text string
		n    int
		want api.Errno
	}{
		{"\n", 1, api.ErrSyntax}, {" ", 1, api.ErrSyntax}, {good + "\n", 2, api.ErrSyntax}, {"2 1 9000 10", 1, api.ErrSyntax}, {good + "3 1 9000 10", 2, api.ErrSyntax},
		{"2 1 9000\n", 1, api.ErrSyntax}, {"2 1 9000 10 1\n", 1, api.ErrSyntax}, {" 2 1 9000 10\n", 1, api.ErrSyntax}, {"2 1 9000 10 \n", 1, api.ErrSyntax}, {"2  1 9000 10\n", 1, api.ErrSyntax}, {"2\t1 9000 10\n", 1, api.ErrSyntax},
		{"02 1 9000 10\n", 1, api.ErrSyntax}, {"+2 1 9000 10\n", 1, api.ErrSyntax}, {"2 01 9000 10\n", 1, api.ErrSyntax}, {"2 1 09000 10\n", 1, api.ErrSyntax}, {"2 1 9000 010\n", 1, api.ErrSyntax}, {"2 1 9000 +10\n", 1, api.ErrSyntax},
		{"2 1 9000 Free\n", 1, api.ErrSyntax}, {"2 1 9000 freed\n", 1, api.ErrSyntax}, {"2 1 9000 \n", 1, api.ErrSyntax}, {"2 1 9000 0\n", 1, api.ErrSyntax}, {"0 1 9000 10\n", 1, api.ErrSyntax}, {"2 41 9000 10\n", 1, api.ErrSyntax},
		{"2 1 9001 10\n", 1, api.ErrSyntax}, {"2 1 9_000 10\n", 1, api.ErrSyntax}, {"2 1 9000 10\r\n", 1, api.ErrSyntax}, {"2 1 99999999999999999999 10\n", 1, api.ErrSyntax}, {"2 1 free 10\n", 1, api.ErrSyntax}, {"2 1 9000 -10\n", 1, api.ErrSyntax}, {"\x00", 1, api.ErrSyntax}, {"2 1 9000 \xff\n", 1, api.ErrSyntax},
		{good + good, 2, api.ErrSyntax}, {good + "1 5 9000 10\n", 2, api.ErrSyntax}, {good + "2 2 1000 free\n2 1 9000 5\n", 3, api.ErrSyntax}, {good + "10 1 1000 5\n9 1 1000 5\nx", 3, api.ErrSyntax}, {good + "2 1 9000 11\n", 2, api.ErrSyntax},
		{sixty + "x", 61, api.ErrSyntax}, {sixty + "40 40 1000 5", 61, api.ErrSyntax}, {sixty + "40 40 1000 5\n", 0, api.ErrLimit}, {strings.Repeat("\n", mostBids), 1, api.ErrSyntax}, {strings.Repeat("\n", mostBids+1), 0, api.ErrLimit},
		{strings.Repeat("1", mostText), 1, api.ErrSyntax}, {strings.Repeat("1", mostText+1), 0, api.ErrLimit}, {good + strings.Repeat("\n", mostText), 0, api.ErrLimit},
	} {
		got, n, e := Parse(c.text)
		if e != c.want || n != c.n || len(got) > 0 {
			t.Errorf("%.60q: %v, %d, error %d, not %d, %d", c.text, got, n, e, c.n, c.want)
		}
	}
	if got, n, e := Parse(""); e != api.OK || n != 0 || len(got) > 0 {
		t.Errorf("nothing: %v, %d, error %d", got, n, e)
	}
}

// The consequences

func TestRandomBids(t *testing.T) {
	r := rand.New(rand.NewSource(312))
	for range 300 {
		var l []api.Bid
		for _, i := range r.Perm(mostHolders * 3)[:r.Intn(mostBids)] {
			b := bid(i/3+1, i%3+1, 1000*(1+r.Intn(1000)), 1+r.Intn(mostPrice))
			if r.Intn(3) == 0 {
				b.Price, b.Free = 0, true
			}
			l = append(l, b)
		}
		text, e := Format(l)
		got, n, e2 := Parse(text)
		if e != api.OK || e2 != api.OK || n != 0 || !slices.Equal(got, Sort(l)) {
			t.Fatalf("%v: %q, errors %d and %d", l, text, e, e2)
		}
		if Total(l, true)+Total(l, false) != Total(got, true)+Total(got, false) {
			t.Fatalf("%v", l)
		}
	}
}
