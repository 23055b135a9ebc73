package register

import (
	"fmt"
	"math"
	"math/rand"
	"slices"
	"testing"

	"treasury/api"
)

// The limits are written out here as the document has them, so that a wrong one shows.
const (
	mostAmount     = 1000000000000
	mostBid        = 1000000000
	mostRate       = 20000
	mostSecurities = 20
	mostMoves      = 400
	mostTerm       = 18000
	lastDay        = 36000
)

// bond is a security in units of 100, from the day 100 to the day 460.
func bond(id int) api.Security {
	return api.Security{ID: id, Unit: 100, Issued: 100, Maturity: 460, Rate: 5000, Every: 6}
}

func held(id, holder, amount int) api.Holding {
	return api.Holding{Security: id, Holder: holder, Amount: amount}
}

// issued, moved and redeemed are moves.
func issued(number, day, id, to, amount int) api.Move {
	return api.Move{Number: number, Day: day, Kind: 1, Security: id, To: to, Amount: amount}
}

func moved(number, day, id, from, to, amount int) api.Move {
	return api.Move{Number: number, Day: day, Kind: 2, Security: id, From: from, To: to, Amount: amount}
}

func redeemed(number, day, id, from, amount int) api.Move {
	return api.Move{Number: number, Day: day, Kind: 3, Security: id, From: from, Amount: amount}
}

// example has the securities 3 and 7, and holdings of the holders 1, 2 and 1000.
func example() api.Register {
	return api.Register{
		Securities: []api.Security{bond(3), bond(7)},
		Holdings:   []api.Holding{held(3, 1, 500), held(3, 2, 400), held(7, 1, 200), held(7, 1000, 700)},
		Moves: []api.Move{
			issued(1, 100, 3, 1, 1000), issued(2, 110, 7, 1000, 900), moved(3, 110, 3, 1, 2, 400), moved(4, 120, 7, 1000, 1, 200),
			issued(5, 130, 7, 5, 300), redeemed(6, 140, 3, 1, 100), redeemed(7, 150, 7, 5, 300),
		},
	}
}

func same(a, b api.Register) bool {
	return slices.Equal(a.Securities, b.Securities) && slices.Equal(a.Holdings, b.Holdings) && slices.Equal(a.Moves, b.Moves)
}

// P33.1

func TestSecurity(t *testing.T) {
	for i, change := range []func(s *api.Security){
		func(s *api.Security) {}, func(s *api.Security) { s.ID = 1000 }, func(s *api.Security) { s.Unit = 1 }, func(s *api.Security) { s.Unit = mostBid }, func(s *api.Security) { s.Issued, s.Maturity = 0, 360 },
		func(s *api.Security) { s.Rate = 0 }, func(s *api.Security) { s.Rate = mostRate }, func(s *api.Security) { s.Every = 1 }, func(s *api.Security) { s.Every = 3 }, func(s *api.Security) { s.Every = 12 },
		func(s *api.Security) { s.Every, s.Rate = 0, 0 }, func(s *api.Security) { s.Every, s.Rate, s.Maturity = 0, 0, 130 }, func(s *api.Security) { s.Every, s.Maturity = 1, 130 }, func(s *api.Security) { s.Every, s.Maturity = 3, 190 },
		func(s *api.Security) { s.Maturity = 100 + mostTerm }, func(s *api.Security) { s.Indexed = true }, func(s *api.Security) { s.Issued, s.Maturity = lastDay-370, lastDay-10 },
	} {
		s := bond(1)
		change(&s)
		if !Security(s) {
			t.Errorf("%d: %v", i, s)
		}
	}
	for i, change := range []func(s *api.Security){
		func(s *api.Security) { s.ID = 0 }, func(s *api.Security) { s.ID = 1001 }, func(s *api.Security) { s.Unit = 0 }, func(s *api.Security) { s.Unit = mostBid + 1 },
		func(s *api.Security) { s.Issued, s.Maturity = -1, 359 }, func(s *api.Security) { s.Issued, s.Maturity = lastDay-369, lastDay-9 }, func(s *api.Security) { s.Maturity = 280 + mostTerm },
		func(s *api.Security) { s.Every, s.Maturity = 1, 100 }, func(s *api.Security) { s.Every, s.Maturity = 1, 70 }, func(s *api.Security) { s.Every, s.Maturity = 1, 131 }, func(s *api.Security) { s.Every, s.Rate, s.Maturity = 0, 0, 145 },
		func(s *api.Security) { s.Rate = -1 }, func(s *api.Security) { s.Rate = mostRate + 1 }, func(s *api.Security) { s.Every = 0 }, func(s *api.Security) { s.Every = 2 }, func(s *api.Security) { s.Every = -6 }, func(s *api.Security) { s.Every = 4 }, func(s *api.Security) { s.Every = 24 },
		func(s *api.Security) { s.Every, s.Maturity = 3, 130 }, func(s *api.Security) { s.Every, s.Maturity = 6, 370 }, func(s *api.Security) { s.Every, s.Maturity = 12, 640 },
		func(s *api.Security) { s.Issued = math.MaxInt }, func(s *api.Security) { s.Issued, s.Maturity = math.MinInt, math.MinInt+360 }, func(s *api.Security) { s.Maturity = math.MaxInt }, func(s *api.Security) { *s = api.Security{} },
	} {
		s := bond(5)
		change(&s)
		if Security(s) {
			t.Errorf("%d: %v", i, s)
		}
		if got, e := Add(example(), s); e != api.ErrSecurity || !same(got, api.Register{}) {
			t.Errorf("%d, Add: %v, error %d", i, got, e)
		}
		if e := Check(api.Register{Securities: []api.Security{s}}); e != api.ErrRegister {
			t.Errorf("%d, Check: error %d", i, e)
		}
	}
}

// many is a register with so many securities, and so many moves of the first one.
func many(securities, moves int) api.Register {
	var r api.Register
	for i := range securities {
		r.Securities = append(r.Securities, bond(i+1))
	}
	for i := range moves {
		r.Moves = append(r.Moves, issued(i+1, 100, 1, 1, 100))
	}
	if moves > 0 {
		r.Holdings = []api.Holding{held(1, 1, 100*moves)}
	}
	return r
}

func TestCheck(t *testing.T) {
	for name, r := range map[string]api.Register{"the example": example(), "nothing": {}, "20 securities": many(mostSecurities, 0), "400 moves": many(1, mostMoves)} {
		if e := Check(r); e != api.OK {
			t.Errorf("%s: error %d", name, e)
		}
	}
	for name, c := range wrong() {
		r := example()
		c.change(&r)
		if e := Check(r); e != c.want {
			t.Errorf("%s: error %d, not %d", name, e, c.want)
		}
		zero := func(what string) func(got api.Register, e api.Errno) {
			return func(got api.Register, e api.Errno) {
				if e != c.want || !same(got, api.Register{}) {
					t.Errorf("%s, %s: %v, error %d, not %d", name, what, got, e, c.want)
				}
			}
		}
		zero("Add")(Add(r, api.Security{}))
		zero("Issue")(Issue(r, 160, 3, 1, 100))
		zero("Transfer")(Transfer(r, -1, 99, 1, 2, 100))
		zero("Redeem")(Redeem(r, 160, 3, 1, 100))
		if Held(r, 3, 1) != 0 || Outstanding(r, 3) != 0 || Debt(r) != 0 || len(At(r, 500)) > 0 {
			t.Errorf("%s: %d, %d, %d, %v", name, Held(r, 3, 1), Outstanding(r, 3), Debt(r), At(r, 500))
		}
	}
}

// mistake makes the example a register with an error.
type mistake = struct {
	change func(r *api.Register)
	want   api.Errno
}

func wrong() map[string]mistake {
	l := map[string]mistake{
		"21 securities":                    {func(r *api.Register) { *r = many(mostSecurities+1, 0) }, api.ErrLimit},
		"401 moves":                        {func(r *api.Register) { *r = many(1, mostMoves+1) }, api.ErrLimit},
		"401 moves that are not possible":  {func(r *api.Register) { r.Moves = make([]api.Move, mostMoves+1) }, api.ErrLimit},
		"21 securities that are not valid": {func(r *api.Register) { r.Securities = make([]api.Security, mostSecurities+1) }, api.ErrLimit},
	}
	for name, do := range map[string]func(r *api.Register){
		"a security":              func(r *api.Register) { r.Securities[0].Unit = 0 },
		"a security twice":        func(r *api.Register) { r.Securities = append(r.Securities, r.Securities[1]) },
		"securities out of order": func(r *api.Register) { r.Securities[0], r.Securities[1] = r.Securities[1], r.Securities[0] },
		"a security missing":      func(r *api.Register) { r.Securities = r.Securities[:1] },
		"the first number":        func(r *api.Register) { r.Moves[0].Number = 0 },
		"a number twice":          func(r *api.Register) { r.Moves[6].Number = 6 },
		"a number left out":       func(r *api.Register) { r.Moves[6].Number = 8 },
		"days that fall":          func(r *api.Register) { r.Moves[4].Day = 119 },
		"before the issue":        func(r *api.Register) { r.Moves[0].Day = 99 },
		"behind the maturity":     func(r *api.Register) { r.Moves = r.Moves[:5]; r.Moves[4].Day = 461; r.Holdings = At(example(), 130) },
		"no kind":                 func(r *api.Register) { r.Moves[0].Kind = 0 },
		"another kind":            func(r *api.Register) { r.Moves[0].Kind = 4 },
		"an amount of 0":          func(r *api.Register) { r.Moves = append(r.Moves, moved(8, 150, 3, 1, 2, 0)) },
		"an amount below 0":       func(r *api.Register) { r.Moves = append(r.Moves, moved(8, 150, 3, 1, 2, -100)) },
		"no multiple":             func(r *api.Register) { r.Moves[5].Amount, r.Holdings[0].Amount = 50, 550 },
		"an issue from a holder":  func(r *api.Register) { r.Moves[4].From = 1000 },
		"an issue to nobody":      func(r *api.Register) { r.Moves[0].To = 0 },
		"an issue to 1001": func(r *api.Register) {
			r.Moves[0].To = 1001
			r.Moves[2].From = 1001
			r.Moves[5].From = 1001
			r.Holdings[0].Holder = 1001
		},
		"a transfer to itself": func(r *api.Register) { r.Moves = append(r.Moves, moved(8, 150, 3, 1, 1, 100)) },
		"a transfer to 0":      func(r *api.Register) { r.Moves[3].To = 0; r.Holdings = slices.Delete(r.Holdings, 2, 3) },
		"a transfer from 0":    func(r *api.Register) { r.Moves[3].From = 0 },
		"a transfer to 1001": func(r *api.Register) {
			r.Moves[3].To = 1001
			r.Holdings[2], r.Holdings[3] = held(7, 1000, 700), held(7, 1001, 200)
		},
		"a redemption to somebody": func(r *api.Register) { r.Moves[5].To = 2 },
		"a redemption from 0":      func(r *api.Register) { r.Moves[5].From = 0 },
		"more than it has":         func(r *api.Register) { r.Moves[2].Amount = 1100 },
		"what it has not yet": func(r *api.Register) {
			r.Moves[0], r.Moves[2] = moved(1, 100, 3, 1, 2, 400), issued(3, 110, 3, 1, 1000)
		},
		"more redeemed than it has":        func(r *api.Register) { r.Moves[6].Amount = 400 },
		"a holding missing":                func(r *api.Register) { r.Holdings = r.Holdings[:3] },
		"no holdings":                      func(r *api.Register) { r.Holdings = nil },
		"a holding too much":               func(r *api.Register) { r.Holdings = append(r.Holdings, held(7, 1001, 5)) },
		"a holding of 0":                   func(r *api.Register) { r.Holdings = slices.Insert(r.Holdings, 3, held(7, 5, 0)) },
		"another amount":                   func(r *api.Register) { r.Holdings[0].Amount++ },
		"another holder":                   func(r *api.Register) { r.Holdings[1].Holder = 3 },
		"holdings out of order":            func(r *api.Register) { r.Holdings[2], r.Holdings[3] = r.Holdings[3], r.Holdings[2] },
		"holdings of securities not right": func(r *api.Register) { r.Holdings = append(r.Holdings[2:], r.Holdings[:2]...) },
		"holdings without moves":           func(r *api.Register) { r.Moves = nil },
		"too much outstanding": func(r *api.Register) {
			r.Moves = []api.Move{issued(1, 100, 3, 1, mostAmount), issued(2, 100, 3, 2, 100)}
			r.Holdings = []api.Holding{held(3, 1, mostAmount), held(3, 2, 100)}
		},
		"more than an amount": func(r *api.Register) {
			r.Moves, r.Holdings = []api.Move{issued(1, 100, 3, 1, mostAmount+100)}, []api.Holding{held(3, 1, mostAmount+100)}
		},
	} {
		l[name] = mistake{do, api.ErrRegister}
	}
	return l
}

func TestAddAndFind(t *testing.T) {
	for i, id := range []int{1, 5, 9} {
		r := example()
		got, e := Add(r, bond(id))
		want := example()
		want.Securities = slices.Insert(want.Securities, i, bond(id))
		if e != api.OK || !same(got, want) || !same(r, example()) {
			t.Errorf("%d: %v, error %d", id, got, e)
		}
		if s, ok := Find(got, id); !ok || s != bond(id) {
			t.Errorf("%d: %v, %v", id, s, ok)
		}
	}
	if got, e := Add(api.Register{}, bond(5)); e != api.OK || !same(got, api.Register{Securities: []api.Security{bond(5)}}) {
		t.Errorf("%v, error %d", got, e)
	}
	for _, c := range []struct {
		name string
		r    api.Register
		s    api.Security
		want api.Errno
	}{
		{"there already", example(), bond(3), api.ErrSecurity},
		{"19", many(mostSecurities-1, 0), bond(900), api.OK},
		{"20", many(mostSecurities, 0), bond(900), api.ErrLimit},
		{"20, and there already", many(mostSecurities, 0), bond(9), api.ErrSecurity},
		{"20, and not valid", many(mostSecurities, 0), api.Security{}, api.ErrSecurity},
		{"400 moves", many(1, mostMoves), bond(900), api.OK},
	} {
		if got, e := Add(c.r, c.s); e != c.want || e != api.OK && !same(got, api.Register{}) {
			t.Errorf("%s: %v, error %d, not %d", c.name, got, e, c.want)
		}
	}
	shared := example()
	next, _ := Add(shared, bond(9))
	next.Securities[0].Unit, next.Moves[0].Amount, next.Holdings[0].Amount = -1, -1, -1
	if !same(shared, example()) {
		t.Error("memory is shared")
	}
	any := api.Register{Securities: []api.Security{{ID: 7, Unit: -1}, {ID: 7, Unit: -2}, {ID: -3}}}
	for id, want := range map[int]api.Security{7: {ID: 7, Unit: -1}, -3: {ID: -3}} {
		if s, ok := Find(any, id); !ok || s != want {
			t.Errorf("%d: %v, %v", id, s, ok)
		}
	}
	if s, ok := Find(any, 0); ok || s != (api.Security{}) {
		t.Errorf("%v, %v", s, ok)
	}
}

// P33.2

func TestMoves(t *testing.T) {
	for _, c := range []struct {
		name string
		do   func(r api.Register) (api.Register, api.Errno)
		move api.Move
		want []api.Holding
	}{
		{"an issue", func(r api.Register) (api.Register, api.Errno) { return Issue(r, 150, 3, 2, 100) }, issued(8, 150, 3, 2, 100), []api.Holding{held(3, 1, 500), held(3, 2, 500), held(7, 1, 200), held(7, 1000, 700)}},
		{"an issue to another one", func(r api.Register) (api.Register, api.Errno) { return Issue(r, 460, 7, 9, 5000) }, issued(8, 460, 7, 9, 5000), []api.Holding{held(3, 1, 500), held(3, 2, 400), held(7, 1, 200), held(7, 9, 5000), held(7, 1000, 700)}},
		{"a transfer", func(r api.Register) (api.Register, api.Errno) { return Transfer(r, 460, 3, 2, 1, 300) }, moved(8, 460, 3, 2, 1, 300), []api.Holding{held(3, 1, 800), held(3, 2, 100), held(7, 1, 200), held(7, 1000, 700)}},
		{"a transfer of all", func(r api.Register) (api.Register, api.Errno) { return Transfer(r, 200, 7, 1000, 4, 700) }, moved(8, 200, 7, 1000, 4, 700), []api.Holding{held(3, 1, 500), held(3, 2, 400), held(7, 1, 200), held(7, 4, 700)}},
		{"a redemption", func(r api.Register) (api.Register, api.Errno) { return Redeem(r, 461, 3, 1, 200) }, redeemed(8, 461, 3, 1, 200), []api.Holding{held(3, 1, 300), held(3, 2, 400), held(7, 1, 200), held(7, 1000, 700)}},
		{"a redemption of all", func(r api.Register) (api.Register, api.Errno) { return Redeem(r, lastDay, 3, 1, 500) }, redeemed(8, lastDay, 3, 1, 500), []api.Holding{held(3, 2, 400), held(7, 1, 200), held(7, 1000, 700)}},
	} {
		r := example()
		got, e := c.do(r)
		want := example()
		want.Moves, want.Holdings = append(want.Moves, c.move), c.want
		if e != api.OK || !same(got, want) || Check(got) != api.OK {
			t.Errorf("%s: %v, error %d, not %v", c.name, got, e, want)
		}
		got.Securities[0].Unit, got.Moves[0].Amount, got.Holdings[0].Amount = -1, -1, -1
		if !same(r, example()) {
			t.Errorf("%s: memory is shared", c.name)
		}
	}
	first, e := Issue(api.Register{Securities: []api.Security{bond(3)}}, 100, 3, 8, 100)
	if e != api.OK || first.Moves[0] != issued(1, 100, 3, 8, 100) {
		t.Errorf("%v, error %d", first, e)
	}
}

func TestErrorsOfMoves(t *testing.T) {
	full := many(1, mostMoves)
	rich := api.Register{Securities: []api.Security{bond(3)}, Holdings: []api.Holding{held(3, 1, mostAmount-100)}, Moves: []api.Move{issued(1, 100, 3, 1, mostAmount-100)}}
	least := api.Register{Securities: []api.Security{bond(3)}, Holdings: []api.Holding{held(3, 1, mostAmount-1)}, Moves: []api.Move{issued(1, 100, 3, 1, mostAmount-1)}}
	least.Securities[0].Unit = 1
	// The day, the security, the holder from whom, the holder to whom, and the amount.
	for _, c := range []struct {
		name                          string
		r                             api.Register
		day, id, from, to, amount     int
		onIssue, onTransfer, onRedeem api.Errno
	}{
		{name: "full", r: full, day: -1, id: 9, onIssue: api.ErrLimit, onTransfer: api.ErrLimit, onRedeem: api.ErrLimit},
		{name: "one less than full", r: many(1, mostMoves-1), day: 100, id: 1, from: 1, to: 2, amount: 100},
		{name: "no security", r: example(), day: -1, id: 4, onIssue: api.ErrSecurity, onTransfer: api.ErrSecurity, onRedeem: api.ErrSecurity},
		{name: "the security 0", r: example(), day: 150, id: 0, from: 1, to: 2, amount: 100, onIssue: api.ErrSecurity, onTransfer: api.ErrSecurity, onRedeem: api.ErrSecurity},
		{name: "before the last move", r: example(), day: 149, id: 3, amount: -1, onIssue: api.ErrOrder, onTransfer: api.ErrOrder, onRedeem: api.ErrOrder},
		{name: "before the issue", r: many(1, 0), day: 99, id: 1, amount: 100, onIssue: api.ErrOrder, onTransfer: api.ErrOrder, onRedeem: api.ErrOrder},
		{name: "the day of the issue", r: many(1, 1), day: 100, id: 1, from: 1, to: 2, amount: 100},
		{name: "the maturity", r: example(), day: 460, id: 3, from: 1, to: 2, amount: 100},
		{name: "behind the maturity", r: example(), day: 461, id: 3, from: 1, to: 2, amount: 100, onIssue: api.ErrOrder, onTransfer: api.ErrOrder},
		{name: "the last day", r: example(), day: lastDay, id: 3, from: 1, to: 2, amount: 100, onIssue: api.ErrOrder, onTransfer: api.ErrOrder},
		{name: "behind the last day", r: example(), day: lastDay + 1, id: 3, from: 1, to: 2, amount: 100, onIssue: api.ErrOrder, onTransfer: api.ErrOrder, onRedeem: api.ErrOrder},
		{name: "an amount of 0", r: example(), day: 150, id: 3, from: 1001, to: 1001, onIssue: api.ErrUnit, onTransfer: api.ErrUnit, onRedeem: api.ErrUnit},
		{name: "an amount below 0", r: example(), day: 150, id: 3, from: 1, to: 2, amount: -100, onIssue: api.ErrUnit, onTransfer: api.ErrUnit, onRedeem: api.ErrUnit},
		{name: "no multiple", r: example(), day: 150, id: 3, from: 1, to: 2, amount: 150, onIssue: api.ErrUnit, onTransfer: api.ErrUnit, onRedeem: api.ErrUnit},
		{name: "no amount", r: example(), day: 150, id: 3, from: 1, to: 2, amount: mostAmount + 100, onIssue: api.ErrUnit, onTransfer: api.ErrUnit, onRedeem: api.ErrUnit},
		{name: "no holders", r: example(), day: 150, id: 3, amount: 100, onIssue: api.ErrUnknown, onTransfer: api.ErrUnknown, onRedeem: api.ErrUnknown},
		{name: "holders below 0", r: example(), day: 150, id: 3, from: -1, to: -2, amount: 100, onIssue: api.ErrUnknown, onTransfer: api.ErrUnknown, onRedeem: api.ErrUnknown},
		{name: "the holder 1001", r: example(), day: 150, id: 3, from: 1001, to: 1001, amount: 100, onIssue: api.ErrUnknown, onTransfer: api.ErrUnknown, onRedeem: api.ErrUnknown},
		{name: "to 1001", r: example(), day: 150, id: 3, from: 1, to: 1001, amount: 100, onIssue: api.ErrUnknown, onTransfer: api.ErrUnknown},
		{name: "from 0", r: example(), day: 150, id: 3, from: 0, to: 1, amount: 100, onTransfer: api.ErrUnknown, onRedeem: api.ErrUnknown},
		{name: "to itself", r: example(), day: 150, id: 3, from: 1, to: 1, amount: 100, onTransfer: api.ErrUnknown},
		{name: "to itself, and not there", r: example(), day: 150, id: 3, from: 9, to: 9, amount: 100, onTransfer: api.ErrUnknown, onRedeem: api.ErrHolding},
		{name: "more than it has", r: example(), day: 150, id: 3, from: 1, to: 2, amount: 600, onTransfer: api.ErrHolding, onRedeem: api.ErrHolding},
		{name: "of another security", r: example(), day: 150, id: 3, from: 1000, to: 2, amount: 100, onTransfer: api.ErrHolding, onRedeem: api.ErrHolding},
		{name: "just all", r: example(), day: 150, id: 3, from: 1, to: 2, amount: 500},
		{name: "just the largest amount", r: rich, day: 150, id: 3, from: 1, to: 2, amount: 100},
		{name: "the least amount", r: least, day: 150, id: 3, from: 1, to: 2, amount: 1},
		{name: "1 above the largest amount", r: least, day: 150, id: 3, from: 1, to: 2, amount: 2, onIssue: api.ErrRange},
		{name: "above the largest amount", r: rich, day: 150, id: 3, from: 1, to: 2, amount: 200, onIssue: api.ErrRange},
	} {
		kept := fmt.Sprint(c.r)
		check := func(what string, want api.Errno) func(got api.Register, e api.Errno) {
			return func(got api.Register, e api.Errno) {
				if e != want || e != api.OK && !same(got, api.Register{}) || kept != fmt.Sprint(c.r) {
					t.Errorf("%s, %s: %v, error %d, not %d", c.name, what, got, e, want)
				}
			}
		}
		check("Issue", c.onIssue)(Issue(c.r, c.day, c.id, c.to, c.amount))
		check("Transfer", c.onTransfer)(Transfer(c.r, c.day, c.id, c.from, c.to, c.amount))
		check("Redeem", c.onRedeem)(Redeem(c.r, c.day, c.id, c.from, c.amount))
	}
}

// P33.3

func TestHoldings(t *testing.T) {
	r := example()
	for who, want := range map[[2]int]int{{3, 1}: 500, {3, 2}: 400, {7, 1}: 200, {7, 1000}: 700, {7, 5}: 0, {7, 2}: 0, {4, 1}: 0, {0, 0}: 0, {-1, -1}: 0} {
		if got := Held(r, who[0], who[1]); got != want {
			t.Errorf("%v: %d, not %d", who, got, want)
		}
	}
	for id, want := range map[int]int{3: 900, 7: 900, 4: 0, 0: 0} {
		if got := Outstanding(r, id); got != want {
			t.Errorf("%d: %d, not %d", id, got, want)
		}
	}
	if Debt(r) != 1800 || Debt(api.Register{}) != 0 {
		t.Errorf("a debt of %d", Debt(r))
	}
	for day, want := range map[int][]api.Holding{
		math.MinInt: nil, 99: nil, 100: {held(3, 1, 1000)}, 109: {held(3, 1, 1000)}, 110: {held(3, 1, 600), held(3, 2, 400), held(7, 1000, 900)},
		120: {held(3, 1, 600), held(3, 2, 400), held(7, 1, 200), held(7, 1000, 700)}, 130: {held(3, 1, 600), held(3, 2, 400), held(7, 1, 200), held(7, 5, 300), held(7, 1000, 700)},
		140: {held(3, 1, 500), held(3, 2, 400), held(7, 1, 200), held(7, 5, 300), held(7, 1000, 700)}, 150: r.Holdings, math.MaxInt: r.Holdings,
	} {
		if got := At(r, day); !slices.Equal(got, want) {
			t.Errorf("day %d: %v, not %v", day, got, want)
		}
	}
	At(r, 500)[0].Amount = -1
	if !same(r, example()) {
		t.Error("memory is shared")
	}
}

// The consequences

func TestRandomRegisters(t *testing.T) {
	r := rand.New(rand.NewSource(331))
	for range 100 {
		reg := api.Register{Securities: []api.Security{bond(1), bond(2)}}
		know := map[[2]int]int{}
		out := map[int]int{}
		day := 100
		for range 60 {
			id, from, to, amount := 1+r.Intn(2), 1+r.Intn(4), 1+r.Intn(4), 100*(1+r.Intn(5))
			next, e, wanted := reg, api.OK, true
			switch r.Intn(3) {
			case 0:
				next, e = Issue(reg, day, id, to, amount)
				know[[2]int{id, to}] += amount
				out[id] += amount
			case 1:
				next, e = Transfer(reg, day, id, from, to, amount)
				if wanted = from != to && know[[2]int{id, from}] >= amount; wanted {
					know[[2]int{id, from}] -= amount
					know[[2]int{id, to}] += amount
				}
			case 2:
				next, e = Redeem(reg, day, id, from, amount)
				if wanted = know[[2]int{id, from}] >= amount; wanted {
					know[[2]int{id, from}] -= amount
					out[id] -= amount
				}
			}
			if (e == api.OK) != wanted {
				t.Fatalf("error %d", e)
			}
			if e == api.OK {
				reg = next
			}
			day += r.Intn(3)
			for who, amount := range know {
				if Held(reg, who[0], who[1]) != amount {
					t.Fatalf("%v: %d, not %d", who, Held(reg, who[0], who[1]), amount)
				}
			}
			if Check(reg) != api.OK || Outstanding(reg, 1) != out[1] || Debt(reg) != out[1]+out[2] || !slices.Equal(At(reg, day), reg.Holdings) {
				t.Fatalf("%v, not %v", reg, out)
			}
		}
	}
}
