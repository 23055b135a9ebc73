package auction

import (
	"math"
	"math/rand"
	"slices"
	"testing"

	"treasury/api"
)

// The limits are written out here as the document has them, so that a wrong one shows.
const (
	mostAmount = 1000000000000
	mostBid    = 1000000000
	mostPrice  = 200000
	mostBids   = 60
	lot        = 1000
)

// bid is a bid in lots.
func bid(bidder, number, lots, price int) api.Bid {
	return api.Bid{Bidder: bidder, Number: number, Amount: lot * lots, Price: price}
}

func free(bidder, number, lots int) api.Bid {
	return api.Bid{Bidder: bidder, Number: number, Amount: lot * lots, Free: true}
}

// award is an award in lots.
func award(bidder, number, lots, price int) api.Award {
	return api.Award{Bidder: bidder, Number: number, Amount: lot * lots, Price: price}
}

func offer(lots, least, share int, uniform bool) api.Offer {
	return api.Offer{Amount: lot * lots, Least: least, Share: share, Uniform: uniform}
}

func same(a, b api.Result) bool {
	return a.Cut == b.Cut && a.Sold == b.Sold && slices.Equal(a.Awards, b.Awards)
}

// P32.1

func TestOffer(t *testing.T) {
	for _, o := range []api.Offer{offer(1, 1, 0, false), {Amount: mostBid, Least: mostPrice, Share: 100, Uniform: true}, offer(7, 99000, 33, true)} {
		if !Offer(o) {
			t.Errorf("%v", o)
		}
		if _, e := Hold(o, nil); e != api.OK {
			t.Errorf("%v: error %d", o, e)
		}
	}
	for _, o := range []api.Offer{
		offer(0, 1, 0, false), {Amount: 999, Least: 1}, {Amount: 1001, Least: 1}, {Amount: 1500, Least: 1}, {Amount: mostBid + 1000, Least: 1}, {Amount: -1000, Least: 1}, {Amount: math.MinInt, Least: 1},
		offer(1, 0, 0, false), offer(1, -1, 0, false), offer(1, mostPrice+1, 0, false), offer(1, 1, -1, false), offer(1, 1, 101, false), {},
	} {
		if Offer(o) {
			t.Errorf("%v", o)
		}
		for _, l := range [][]api.Bid{nil, {{}}, make([]api.Bid, mostBids+1)} {
			if r, e := Hold(o, l); e != api.ErrOffer || !same(r, api.Result{}) {
				t.Errorf("%v: %v, error %d", o, r, e)
			}
		}
		if Check(o, nil, api.Result{}) {
			t.Errorf("%v is checked", o)
		}
	}
}

func TestHold(t *testing.T) {
	for _, c := range []struct {
		name string
		o    api.Offer
		l    []api.Bid
		want api.Result
	}{
		{"no bids", offer(10, 90, 20, false), nil, api.Result{}},
		{"the example", offer(10, 1, 0, false), []api.Bid{bid(1, 1, 6, 99), bid(2, 1, 6, 98), bid(3, 1, 3, 97)}, api.Result{Cut: 98, Sold: 10000, Awards: []api.Award{award(1, 1, 6, 99), award(2, 1, 4, 98)}}},
		{"uniform", offer(10, 1, 0, true), []api.Bid{bid(1, 1, 6, 99), bid(2, 1, 6, 98), bid(3, 1, 3, 97)}, api.Result{Cut: 98, Sold: 10000, Awards: []api.Award{award(1, 1, 6, 98), award(2, 1, 4, 98)}}},
		{"not all is sold", offer(20, 1, 0, false), []api.Bid{bid(2, 1, 6, 98), bid(3, 1, 3, 97), bid(1, 1, 6, 99)}, api.Result{Cut: 97, Sold: 15000, Awards: []api.Award{award(1, 1, 6, 99), award(2, 1, 6, 98), award(3, 1, 3, 97)}}},
		{"the least price", offer(20, 98, 0, false), []api.Bid{bid(2, 1, 6, 98), bid(3, 1, 3, 97), bid(1, 1, 6, 99)}, api.Result{Cut: 98, Sold: 12000, Awards: []api.Award{award(1, 1, 6, 99), award(2, 1, 6, 98)}}},
		{"all below the least price", offer(20, 100, 0, true), []api.Bid{bid(2, 1, 6, 98), bid(3, 1, 3, 97)}, api.Result{}},
		{"a price that is just served", offer(12, 1, 0, false), []api.Bid{bid(1, 1, 6, 99), bid(2, 1, 6, 98), bid(3, 1, 3, 97)}, api.Result{Cut: 98, Sold: 12000, Awards: []api.Award{award(1, 1, 6, 99), award(2, 1, 6, 98)}}},
		{"parts", offer(10, 1, 0, false), []api.Bid{bid(1, 1, 5, 98), bid(2, 2, 3, 98), bid(2, 1, 4, 98), bid(3, 1, 5, 98), bid(4, 1, 1, 99)}, api.Result{Cut: 98, Sold: 10000, Awards: []api.Award{award(1, 1, 3, 98), award(2, 1, 2, 98), award(2, 2, 1, 98), award(3, 1, 3, 98), award(4, 1, 1, 99)}}},
		{"equal parts", offer(2, 1, 0, false), []api.Bid{bid(3, 1, 5, 98), bid(2, 2, 5, 98), bid(2, 1, 5, 98)}, api.Result{Cut: 98, Sold: 2000, Awards: []api.Award{award(2, 1, 1, 98), award(2, 2, 1, 98)}}},
		{"free bids in full", offer(10, 1, 50, true), []api.Bid{free(1, 1, 2), bid(2, 1, 20, 98), free(3, 1, 3)}, api.Result{Cut: 98, Sold: 10000, Awards: []api.Award{award(1, 1, 2, 98), award(2, 1, 5, 98), award(3, 1, 3, 98)}}},
		{"free bids in parts", offer(10, 1, 39, true), []api.Bid{free(1, 1, 2), bid(2, 1, 20, 98), free(3, 1, 4)}, api.Result{Cut: 98, Sold: 10000, Awards: []api.Award{award(1, 1, 1, 98), award(2, 1, 7, 98), award(3, 1, 2, 98)}}},
		{"less free bids than their share", offer(10, 1, 39, true), []api.Bid{free(1, 1, 2), bid(2, 1, 20, 98)}, api.Result{Cut: 98, Sold: 10000, Awards: []api.Award{award(1, 1, 2, 98), award(2, 1, 8, 98)}}},
		{"free bids without a share", offer(10, 1, 0, false), []api.Bid{free(1, 1, 2), bid(2, 1, 3, 98)}, api.Result{Cut: 98, Sold: 3000, Awards: []api.Award{award(2, 1, 3, 98)}}},
		{"free bids without a lot of a share", offer(10, 1, 9, false), []api.Bid{free(1, 1, 2), bid(2, 1, 3, 98)}, api.Result{Cut: 98, Sold: 3000, Awards: []api.Award{award(2, 1, 3, 98)}}},
		{"free bids alone", offer(10, 77, 50, true), []api.Bid{free(1, 1, 2), bid(2, 1, 3, 76)}, api.Result{Sold: 2000, Awards: []api.Award{award(1, 1, 2, 77)}}},
		{"free bids alone, each at its price", offer(10, 77, 50, false), []api.Bid{free(1, 1, 20)}, api.Result{Sold: 5000, Awards: []api.Award{award(1, 1, 5, 77)}}},
		{"free bids take all", offer(10, 77, 100, false), []api.Bid{free(1, 1, 20), bid(2, 1, 3, 99)}, api.Result{Sold: 10000, Awards: []api.Award{award(1, 1, 10, 77)}}},
		{"the average", offer(10, 1, 50, false), []api.Bid{free(1, 1, 5), bid(2, 1, 3, 99), bid(3, 1, 1, 95), bid(4, 1, 3, 90)}, api.Result{Cut: 90, Sold: 10000, Awards: []api.Award{award(1, 1, 5, 97), award(2, 1, 3, 99), award(3, 1, 1, 95), award(4, 1, 1, 90)}}},
		{"the average rounded up", offer(10, 1, 50, false), []api.Bid{free(1, 1, 1), bid(2, 1, 6, 99), bid(3, 1, 3, 95)}, api.Result{Cut: 95, Sold: 10000, Awards: []api.Award{award(1, 1, 1, 98), award(2, 1, 6, 99), award(3, 1, 3, 95)}}},
		{"the average of one price", offer(10, 1, 50, false), []api.Bid{free(1, 1, 1), bid(2, 1, 6, 99), bid(3, 1, 3, 99)}, api.Result{Cut: 99, Sold: 10000, Awards: []api.Award{award(1, 1, 1, 99), award(2, 1, 6, 99), award(3, 1, 3, 99)}}},
		{"the largest", api.Offer{Amount: mostBid, Least: mostPrice, Share: 50}, []api.Bid{{Bidder: 1, Number: 1, Amount: mostBid, Price: mostPrice}, {Bidder: 2, Number: 1, Amount: mostBid, Free: true}}, api.Result{Cut: mostPrice, Sold: mostBid, Awards: []api.Award{{Bidder: 1, Number: 1, Amount: mostBid / 2, Price: mostPrice}, {Bidder: 2, Number: 1, Amount: mostBid / 2, Price: mostPrice}}}},
	} {
		kept := slices.Clone(c.l)
		got, e := Hold(c.o, c.l)
		if e != api.OK || !same(got, c.want) || !slices.Equal(kept, c.l) {
			t.Errorf("%s: %v, error %d, not %v", c.name, got, e, c.want)
		}
		checks(t, c.name, c.o, c.l, c.want)
	}
	for _, c := range []struct {
		l    []api.Bid
		want api.Errno
	}{{make([]api.Bid, mostBids+1), api.ErrLimit}, {[]api.Bid{{}}, api.ErrBid}, {[]api.Bid{free(1, 1, 1), bid(1, 1, 1, 1)}, api.ErrDuplicate}} {
		if got, e := Hold(offer(1, 1, 0, false), c.l); e != c.want || !same(got, api.Result{}) {
			t.Errorf("%v: %v, error %d, not %d", c.l, got, e, c.want)
		}
		if Check(offer(1, 1, 0, false), c.l, api.Result{}) {
			t.Errorf("%v is checked", c.l)
		}
	}
}

// checks fails unless a result is checked, and no other one is.
func checks(t *testing.T, name string, o api.Offer, l []api.Bid, r api.Result) {
	t.Helper()
	if !Check(o, l, r) {
		t.Errorf("%s: not checked", name)
	}
	changed := func(change func(r *api.Result)) api.Result {
		next := api.Result{Cut: r.Cut, Sold: r.Sold, Awards: slices.Clone(r.Awards)}
		change(&next)
		return next
	}
	wrong := []api.Result{changed(func(r *api.Result) { r.Cut++ }), changed(func(r *api.Result) { r.Sold++ }), changed(func(r *api.Result) { r.Awards = append(r.Awards, api.Award{}) })}
	for i := range r.Awards {
		wrong = append(wrong, changed(func(r *api.Result) { r.Awards[i].Amount++ }), changed(func(r *api.Result) { r.Awards[i].Price++ }), changed(func(r *api.Result) { r.Awards[i].Bidder++ }), changed(func(r *api.Result) { r.Awards[i].Number++ }), changed(func(r *api.Result) { r.Awards = slices.Delete(r.Awards, i, i+1) }))
	}
	for _, x := range wrong {
		if Check(o, l, x) {
			t.Errorf("%s: %v is checked", name, x)
		}
	}
}

// P32.2

func TestPay(t *testing.T) {
	for _, c := range []struct{ amount, price, want int }{{1000, 100000, 1000}, {1000, 99500, 995}, {1000, 99550, 996}, {1000, 99549, 995}, {1000, 99450, 995}, {0, 5, 0}, {5, 0, 0}, {1, 50000, 1}, {1, 49999, 0}, {mostAmount, 100000, mostAmount}, {mostAmount / 2, mostPrice, mostAmount}, {7, mostPrice, 14}} {
		if got, e := Pay(c.amount, c.price); e != api.OK || got != c.want {
			t.Errorf("%d at %d: %d, error %d", c.amount, c.price, got, e)
		}
	}
	for _, c := range [][2]int{{-1, 5}, {mostAmount + 1, 5}, {5, -1}, {5, mostPrice + 1}, {mostAmount, 100001}, {mostAmount, mostPrice}, {mostAmount/2 + 1, mostPrice}, {math.MinInt, 0}, {0, math.MaxInt}} {
		if got, e := Pay(c[0], c[1]); e != api.ErrRange || got != 0 {
			t.Errorf("%v: %d, error %d", c, got, e)
		}
	}
}

func TestCashAndGiven(t *testing.T) {
	r := api.Result{Awards: []api.Award{award(1, 1, 1, 99550), award(2, 3, 2, 100000), award(2, 3, 5, 100000), {Bidder: 9, Number: 9, Amount: -7}}}
	if got, e := Cash(api.Result{Awards: r.Awards[:3], Sold: -1, Cut: -1}); e != api.OK || got != 996+7000 {
		t.Errorf("%d, error %d", got, e)
	}
	if got, e := Cash(r); e != api.ErrRange || got != 0 {
		t.Errorf("%d, error %d", got, e)
	}
	if got, e := Cash(api.Result{}); e != api.OK || got != 0 {
		t.Errorf("%d, error %d", got, e)
	}
	many := slices.Repeat([]api.Award{award(1, 1, 1, 100000)}, mostBids)
	if got, e := Cash(api.Result{Awards: many}); e != api.OK || got != 60000 {
		t.Errorf("60: %d, error %d", got, e)
	}
	for _, a := range []api.Award{award(1, 1, 1, 1), {Amount: -1}} {
		if got, e := Cash(api.Result{Awards: append(many, a)}); e != api.ErrLimit || got != 0 {
			t.Errorf("61: %d, error %d", got, e)
		}
	}
	for who, want := range map[[2]int]int{{1, 1}: 1000, {2, 3}: 2000, {9, 9}: -7, {1, 2}: 0, {2, 1}: 0, {3, 2}: 0, {0, 0}: 0} {
		if got := Given(r, who[0], who[1]); got != want {
			t.Errorf("%v: %d, not %d", who, got, want)
		}
	}
}

// The consequences, and P1

func TestRandomAuctions(t *testing.T) {
	r := rand.New(rand.NewSource(321))
	for range 3000 {
		o := offer(1+r.Intn(40), 1+r.Intn(8), r.Intn(101), r.Intn(2) == 0)
		var l []api.Bid
		for i := range r.Intn(9) {
			b := bid(1+i/2, 1+i%2, 1+r.Intn(12), 1+r.Intn(9))
			if r.Intn(3) == 0 {
				b.Price, b.Free = 0, true
			}
			l = append(l, b)
		}
		got, e := Hold(o, l)
		if e != api.OK {
			t.Fatalf("error %d", e)
		}
		mixed := slices.Clone(l)
		r.Shuffle(len(mixed), func(i, j int) { mixed[i], mixed[j] = mixed[j], mixed[i] })
		if again, _ := Hold(o, mixed); !same(got, again) {
			t.Fatalf("%v, not %v", again, got)
		}
		rules(t, o, l, got)
		other := o
		other.Uniform = !o.Uniform
		second, _ := Hold(other, l)
		if o.Uniform {
			got, second = second, got
		}
		a, _ := Cash(got)
		b, _ := Cash(second)
		if a < b {
			t.Fatalf("%v brings %d, and uniform %d", got, a, b)
		}
	}
}

// rules fails unless a result keeps to the rules of an offer.
func rules(t *testing.T, o api.Offer, l []api.Bid, r api.Result) {
	t.Helper()
	sold, toFree, asked, paid, won := 0, 0, 0, 0, 0
	for _, b := range l {
		given := Given(r, b.Bidder, b.Number)
		sold += given
		if given > b.Amount || given%lot != 0 {
			t.Fatalf("%v gets %d", b, given)
		}
		if b.Free {
			toFree += given
			asked += b.Amount
			continue
		}
		won += given
		paid += given * b.Price
		if b.Price < o.Least && given > 0 || b.Price < r.Cut && given > 0 || b.Price > r.Cut && b.Price >= o.Least && r.Cut > 0 && given < b.Amount {
			t.Fatalf("%v gets %d of %v", b, given, r)
		}
	}
	share := o.Amount / lot * o.Share / 100 * lot
	if sold != r.Sold || sold > o.Amount || toFree != min(asked, share) {
		t.Fatalf("%d is sold, %d to free bids that ask for %d, not at most %d", sold, toFree, asked, share)
	}
	for _, a := range r.Awards {
		i := slices.IndexFunc(l, func(b api.Bid) bool { return b.Bidder == a.Bidder && b.Number == a.Number })
		want := r.Cut
		switch {
		case won == 0:
			want = o.Least
		case !o.Uniform && l[i].Free:
			want = int(math.Ceil(float64(paid) / float64(won)))
		case !o.Uniform:
			want = l[i].Price
		}
		if a.Price != want || a.Price < r.Cut {
			t.Fatalf("%v, not at %d", a, want)
		}
	}
}
