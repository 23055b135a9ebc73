package strip

import (
	"fmt"
	"math"
	"math/rand"
	"slices"
	"testing"

	"treasury/api"
	"treasury/coupon"
	"treasury/register"
)

// The limits are written out here as the document has them, so that a wrong one shows.
const (
	mostAmount = 1000000000000
	mostMoves  = 400
	mostStrips = 400
	lastDay    = 36000
	stripped   = 1000
)

// bond is a security in units of 100, with coupons of 2 1/2 per cent on the days 280, 460, 640 and 820.
func bond(id int) api.Security {
	return api.Security{ID: id, Unit: 100, Issued: 100, Maturity: 820, Rate: 5000, Every: 6}
}

// bill is a security without coupons.
func bill(id int) api.Security {
	return api.Security{ID: id, Unit: 100, Issued: 100, Maturity: 820}
}

// coupons and principal are strips.
func coupons(id, day, holder, amount int) api.Strip {
	return api.Strip{Security: id, Day: day, Holder: holder, Amount: amount}
}

func principal(id, holder, amount int) api.Strip {
	return api.Strip{Security: id, Day: 820, Principal: true, Holder: holder, Amount: amount}
}

func due(day, id, holder, kind, amount int) api.Due {
	return api.Due{Day: day, Security: id, Holder: holder, Kind: kind, Amount: amount}
}

// vault has the securities 1, 2 and 4 (a bill), of which the holder 7 has 10000 each, and the holder 8 has 2000.
func vault(t *testing.T) api.Vault {
	t.Helper()
	r := api.Register{Securities: []api.Security{bond(1), bond(2), bill(4)}}
	for _, s := range r.Securities {
		r = issued(t, r, s.ID, 7, 10000)
		r = issued(t, r, s.ID, 8, 2000)
	}
	return good(t, "New")(New(r))
}

func issued(t *testing.T, r api.Register, id, holder, amount int) api.Register {
	t.Helper()
	r, e := register.Issue(r, 100, id, holder, amount)
	if e != api.OK {
		t.Fatalf("error %d", e)
	}
	return r
}

// good fails unless there is no error, and the vault is right.
func good(t *testing.T, name string) func(v api.Vault, e api.Errno) api.Vault {
	t.Helper()
	return func(v api.Vault, e api.Errno) api.Vault {
		t.Helper()
		if e != api.OK || Check(v) != api.OK {
			t.Fatalf("%s: error %d, vault %d", name, e, Check(v))
		}
		return v
	}
}

func same(a, b api.Vault) bool { return fmt.Sprint(a) == fmt.Sprint(b) }

// example is the vault on the day 300, after the holder 7 has split 3000 and the holder 8 500 of the security 1, and 7 has given 1000 of its principal, and all of its coupon of 640, to 9.
func example(t *testing.T) api.Vault {
	t.Helper()
	v := good(t, "Split")(Split(vault(t), 300, 1, 7, 3000))
	v = good(t, "Split")(Split(v, 300, 1, 8, 500))
	v = good(t, "Move")(Move(v, principal(1, 7, 1000), 9))
	return good(t, "Move")(Move(v, coupons(1, 640, 7, 3000), 9))
}

func TestTheExample(t *testing.T) {
	want := []api.Strip{
		coupons(1, 460, 7, 3000), coupons(1, 460, 8, 500), coupons(1, 640, 8, 500), coupons(1, 640, 9, 3000), coupons(1, 820, 7, 3000), coupons(1, 820, 8, 500),
		principal(1, 7, 2000), principal(1, 8, 500), principal(1, 9, 1000),
	}
	v := example(t)
	if !slices.Equal(v.Strips, want) || register.Held(v.Register, 1, stripped) != 3500 || register.Held(v.Register, 1, 7) != 7000 {
		t.Errorf("%v", v)
	}
}

// P37.1

func TestNewAndParts(t *testing.T) {
	v := vault(t)
	if got, e := New(v.Register); e != api.OK || !same(got, v) {
		t.Errorf("%v, error %d", got, e)
	} else if got.Register.Holdings[0].Amount = -1; register.Check(v.Register) != api.OK {
		t.Error("memory is shared")
	}
	taken := issued(t, v.Register, 4, stripped, 100)
	broken := vault(t).Register
	broken.Holdings[0].Amount++
	for _, c := range []struct {
		r    api.Register
		want api.Errno
	}{{taken, api.ErrStrip}, {issued(t, v.Register, 1, stripped, 100), api.ErrStrip}, {broken, api.ErrRegister}, {api.Register{Securities: make([]api.Security, 21)}, api.ErrLimit}} {
		if got, e := New(c.r); e != c.want || !same(got, api.Vault{}) {
			t.Errorf("%v, error %d, not %d", got, e, c.want)
		}
	}
	all := []api.Strip{coupons(5, 280, 0, 0), coupons(5, 460, 0, 0), coupons(5, 640, 0, 0), coupons(5, 820, 0, 0), principal(5, 0, 0)}
	for day, want := range map[int][]api.Strip{99: nil, 100: all, 279: all, 280: all[1:], 639: all[2:], 640: all[3:], 819: all[3:], 820: nil, 821: nil, -1: nil, math.MinInt: nil, math.MaxInt: nil} {
		if got := Parts(bond(5), day); !slices.Equal(got, want) {
			t.Errorf("day %d: %v, not %v", day, got, want)
		}
	}
	for _, s := range []api.Security{bill(5), bond(0), {}} {
		if got := Parts(s, 200); len(got) > 0 {
			t.Errorf("%v: %v", s, got)
		}
	}
}

// wrong are changes that make the example a vault with an error.
func wrong() map[string]struct {
	change func(v *api.Vault)
	want   api.Errno
} {
	type row = struct {
		change func(v *api.Vault)
		want   api.Errno
	}
	l := map[string]row{
		"the register":             {func(v *api.Vault) { v.Register.Holdings[0].Amount++ }, api.ErrRegister},
		"a large register":         {func(v *api.Vault) { v.Register.Securities = make([]api.Security, 21); v.Strips = nil }, api.ErrLimit},
		"the register and a strip": {func(v *api.Vault) { v.Register.Holdings[0].Amount++; v.Strips = make([]api.Strip, mostStrips+1) }, api.ErrRegister},
		"401 strips":               {func(v *api.Vault) { v.Strips = make([]api.Strip, mostStrips+1) }, api.ErrLimit},
	}
	for name, change := range map[string]func(v *api.Vault){
		"no strips":                         func(v *api.Vault) { v.Strips = nil },
		"a strip missing":                   func(v *api.Vault) { v.Strips = v.Strips[:8] },
		"the first strip missing":           func(v *api.Vault) { v.Strips = v.Strips[1:] },
		"no principal":                      func(v *api.Vault) { v.Strips = v.Strips[:6] },
		"principals alone":                  func(v *api.Vault) { v.Strips = v.Strips[6:] },
		"coupons from the last one on less": func(v *api.Vault) { v.Strips = v.Strips[5:] },
		"no coupon of the maturity":         func(v *api.Vault) { v.Strips = slices.Delete(v.Strips, 4, 6) },
		"a day left out":                    func(v *api.Vault) { v.Strips = slices.Delete(v.Strips, 2, 4) },
		"too much of a coupon":              func(v *api.Vault) { v.Strips[0].Amount += 100 },
		"too little of a coupon":            func(v *api.Vault) { v.Strips[4].Amount -= 100 },
		"too much of a principal":           func(v *api.Vault) { v.Strips[8].Amount += 100 },
		"no multiple":                       func(v *api.Vault) { v.Strips[0].Amount += 50; v.Strips[1].Amount -= 50 },
		"an amount of 0":                    func(v *api.Vault) { v.Strips[1].Amount = 0; v.Strips[0].Amount = 3500 },
		"an amount below 0":                 func(v *api.Vault) { v.Strips[1].Amount = -500; v.Strips[0].Amount = 4000 },
		"more than amounts":                 func(v *api.Vault) { wrap(v) },
		"the holder 0":                      func(v *api.Vault) { v.Strips[0].Holder = 0 },
		"the holder 1001":                   func(v *api.Vault) { v.Strips[1].Holder = 1001 },
		"the holder Stripped":               func(v *api.Vault) { v.Strips[1].Holder = stripped },
		"no security":                       func(v *api.Vault) { v.Strips = append(v.Strips, coupons(3, 460, 7, 100)) },
		"a security that is not stripped":   func(v *api.Vault) { v.Strips = append(v.Strips, coupons(2, 820, 7, 100), principal(2, 7, 100)) },
		"a day without a coupon":            func(v *api.Vault) { v.Strips = slices.Insert(v.Strips, 0, coupons(1, 459, 7, 3500)) },
		"the day of issue":                  func(v *api.Vault) { v.Strips = slices.Insert(v.Strips, 0, coupons(1, 100, 7, 3500)) },
		"a principal on another coupon day": func(v *api.Vault) { x := principal(1, 7, 3500); x.Day = 640; v.Strips = slices.Insert(v.Strips, 4, x) },
		"holders out of order":              func(v *api.Vault) { v.Strips[0], v.Strips[1] = v.Strips[1], v.Strips[0] },
		"a strip twice": func(v *api.Vault) {
			v.Strips[0].Amount = 500
			v.Strips = slices.Insert(v.Strips, 0, coupons(1, 460, 7, 2500))
		},
		"days out of order":                 func(v *api.Vault) { v.Strips = slices.Concat(v.Strips[2:4], v.Strips[:2], v.Strips[4:]) },
		"principals ahead":                  func(v *api.Vault) { v.Strips = slices.Concat(v.Strips[:4], v.Strips[6:], v.Strips[4:6]) },
		"something stripped without strips": func(v *api.Vault) { v.Register, _ = register.Transfer(v.Register, 300, 2, 7, stripped, 100) },
		"a bill stripped":                   func(v *api.Vault) { v.Register, _ = register.Transfer(v.Register, 300, 4, 7, stripped, 100) },
		"a bill stripped with its principal": func(v *api.Vault) {
			v.Register, _ = register.Transfer(v.Register, 300, 4, 7, stripped, 100)
			v.Strips = append(v.Strips, principal(4, 7, 100))
		},
		"more stripped":                func(v *api.Vault) { v.Register, _ = register.Transfer(v.Register, 300, 1, 7, stripped, 100) },
		"nothing stripped any more":    func(v *api.Vault) { v.Register, _ = register.Transfer(v.Register, 300, 1, stripped, 7, 3500) },
		"a part earlier than the rest": func(v *api.Vault) { v.Strips = slices.Insert(v.Strips, 0, coupons(1, 280, 7, 100)) },
	} {
		l[name] = row{change, api.ErrStrip}
	}
	return l
}

// wrap makes the strips of the day 640 wrap to what is stripped: 25 times 2^64 is the first multiple of 100.
func wrap(v *api.Vault) {
	const great = math.MaxInt / 100 * 100
	var l []api.Strip
	for i := range 50 {
		l = append(l, coupons(1, 640, i+1, great))
	}
	l = append(l, coupons(1, 640, 51, 3500+50*(math.MaxInt-great+1)))
	v.Strips = slices.Concat(v.Strips[:2], l, v.Strips[4:])
}

func TestCheck(t *testing.T) {
	for name, c := range wrong() {
		v := example(t)
		c.change(&v)
		if e := Check(v); e != c.want {
			t.Errorf("%s: error %d, not %d", name, e, c.want)
		}
		zero := func(what string) func(got api.Vault, e api.Errno) {
			return func(got api.Vault, e api.Errno) {
				if e != c.want || !same(got, api.Vault{}) {
					t.Errorf("%s, %s: %v, error %d, not %d", name, what, got, e, c.want)
				}
			}
		}
		zero("Split")(Split(v, 300, 3, 7, 100))
		zero("Join")(Join(v, 300, 3, 7, 100))
		zero("Move")(Move(v, api.Strip{}, 0))
		zero("Pay")(Pay(v, -1))
		if got, e := Pending(v, -1); e != c.want || len(got) > 0 {
			t.Errorf("%s, Pending: %v, error %d", name, got, e)
		}
		if Held(v, coupons(1, 820, 7, 0)) != 0 || Rights(v, 1, 820, true) != 0 || Rights(v, 1, 820, false) != 0 {
			t.Errorf("%s: %d, %d", name, Held(v, coupons(1, 820, 7, 0)), Rights(v, 1, 820, true))
		}
	}
	for name, v := range map[string]api.Vault{"nothing": {}, "the example": example(t), "no strips": vault(t)} {
		if e := Check(v); e != api.OK {
			t.Errorf("%s: error %d", name, e)
		}
	}
	for n := range 4 {
		// Coupons that were paid are missing, from the first one on.
		v := good(t, "Split")(Split(vault(t), 100, 1, 7, 100))
		v.Strips = v.Strips[n:]
		if e := Check(v); e != api.OK {
			t.Errorf("%d coupons paid: error %d", n, e)
		}
	}
}

// P37.2

func TestSplit(t *testing.T) {
	v := vault(t)
	kept := fmt.Sprint(v)
	got := good(t, "Split")(Split(v, 100, 1, 7, 4000))
	want := v
	want.Register, _ = register.Transfer(v.Register, 100, 1, 7, stripped, 4000)
	want.Strips = []api.Strip{coupons(1, 280, 7, 4000), coupons(1, 460, 7, 4000), coupons(1, 640, 7, 4000), coupons(1, 820, 7, 4000), principal(1, 7, 4000)}
	if !same(got, want) || kept != fmt.Sprint(v) {
		t.Errorf("%v, not %v", got, want)
	}
	more := good(t, "Split")(Split(got, 279, 1, 7, 100))
	if len(more.Strips) != 5 || more.Strips[0].Amount != 4100 || got.Strips[0].Amount != 4000 {
		t.Errorf("%v", more)
	}
	other := good(t, "Split")(Split(got, 279, 2, 8, 2000))
	if len(other.Strips) != 10 || other.Strips[5] != coupons(2, 280, 8, 2000) {
		t.Errorf("%v", other)
	}
}

// crowd is a vault with so many strips, all of the security 1: one for each other day, and all others of the first coupon.
func crowd(t *testing.T, strips int) api.Vault {
	t.Helper()
	r := api.Register{Securities: []api.Security{bond(1), bond(2)}}
	r = issued(t, issued(t, r, 1, 7, mostStrips*100), 2, 7, 1000)
	v := good(t, "Split")(Split(good(t, "New")(New(r)), 100, 1, 7, mostStrips*100))
	var first []api.Strip
	for i := range strips - 4 {
		first = append(first, coupons(1, 280, i+1, 100))
	}
	first[6].Amount += (4 + mostStrips - strips) * 100
	v.Strips = append(first, v.Strips[1:]...)
	return good(t, "crowd")(v, api.OK)
}

func TestTheEndsOfAmounts(t *testing.T) {
	unit := bond(1)
	unit.Unit = 1
	for _, amount := range []int{1, mostAmount} {
		r := issued(t, api.Register{Securities: []api.Security{unit}}, 1, 7, amount)
		v := good(t, "Split")(Split(good(t, "New")(New(r)), 100, 1, 7, amount))
		v = good(t, "Move")(Move(v, coupons(1, 280, 7, amount), 8))
		if Held(v, coupons(1, 280, 8, 0)) != amount {
			t.Errorf("%v", v)
		}
		v = good(t, "Join")(Join(good(t, "Pay")(Pay(v, 280)), 280, 1, 7, amount))
		if len(v.Strips) > 0 {
			t.Errorf("%v", v)
		}
		v = good(t, "Split")(Split(v, 300, 1, 7, amount))
		if v = good(t, "Pay")(Pay(v, 820)); register.Debt(v.Register) != 0 {
			t.Errorf("%v", v)
		}
	}
}

func TestErrorsOfSplit(t *testing.T) {
	full := vault(t)
	for len(full.Register.Moves) < mostMoves {
		full.Register = issued(t, full.Register, 1, 7, 100)
	}
	paid := good(t, "Pay")(Pay(example(t), 460))
	for _, c := range []struct {
		name                    string
		v                       api.Vault
		day, id, holder, amount int
		want                    api.Errno
	}{
		{"no security", vault(t), -1, 3, 0, -1, api.ErrSecurity},
		{"no coupons", vault(t), -1, 4, 0, -1, api.ErrSecurity},
		{"full", full, 200, 1, 7, 100, api.ErrLimit},
		{"before the issue", vault(t), 99, 1, 7, 100, api.ErrOrder},
		{"behind the maturity", vault(t), 821, 1, 7, -1, api.ErrOrder},
		{"before the last move", example(t), 299, 1, 7, 100, api.ErrOrder},
		{"no multiple", vault(t), 820, 1, 7, 150, api.ErrUnit},
		{"nothing", vault(t), 820, 1, 7, 0, api.ErrUnit},
		{"no holder", vault(t), 820, 1, 0, 100, api.ErrUnknown},
		{"Stripped itself", example(t), 820, 1, stripped, 100, api.ErrUnknown},
		{"less is held", vault(t), 820, 1, 7, 10100, api.ErrHolding},
		{"strips are not held", example(t), 820, 1, 9, 100, api.ErrHolding},
		{"the maturity", vault(t), 820, 1, 7, 100, api.ErrOrder},
		{"the maturity, with strips", example(t), 820, 1, 7, 100, api.ErrOrder},
		{"the day before the maturity", vault(t), 819, 1, 7, 100, api.OK},
		{"a coupon was not paid", example(t), 460, 1, 7, 100, api.ErrOrder},
		{"the day before", example(t), 459, 1, 7, 100, api.OK},
		{"a coupon was paid", paid, 460, 1, 7, 100, api.OK},
		{"a coupon was paid ahead", paid, 459, 1, 7, 100, api.ErrOrder},
		{"another security", example(t), 460, 2, 7, 100, api.OK},
		{"all of it", vault(t), 200, 1, 7, 10000, api.OK},
		{"395 strips and 5", crowd(t, mostStrips-5), 100, 2, 7, 100, api.OK},
		{"396 strips and 5", crowd(t, mostStrips-4), 100, 2, 7, 100, api.ErrLimit},
		{"396 strips and 3", crowd(t, mostStrips-4), 460, 2, 7, 100, api.OK},
	} {
		kept := fmt.Sprint(c.v)
		got, e := Split(c.v, c.day, c.id, c.holder, c.amount)
		if e != c.want || e != api.OK && !same(got, api.Vault{}) || e == api.OK && Check(got) != api.OK || kept != fmt.Sprint(c.v) {
			t.Errorf("%s: error %d, not %d", c.name, e, c.want)
		}
	}
}

func TestJoin(t *testing.T) {
	v := vault(t)
	split := good(t, "Split")(Split(v, 300, 1, 7, 4000))
	kept := fmt.Sprint(split)
	back := good(t, "Join")(Join(split, 310, 1, 7, 4000))
	if len(back.Strips) > 0 || !slices.Equal(back.Register.Holdings, v.Register.Holdings) || kept != fmt.Sprint(split) {
		t.Errorf("%v", back)
	}
	part := good(t, "Join")(Join(split, 310, 1, 7, 1500))
	want := split
	want.Register, _ = register.Transfer(split.Register, 310, 1, stripped, 7, 1500)
	want.Strips = []api.Strip{coupons(1, 460, 7, 2500), coupons(1, 640, 7, 2500), coupons(1, 820, 7, 2500), principal(1, 7, 2500)}
	if !same(part, want) {
		t.Errorf("%v, not %v", part, want)
	}
	full := example(t)
	for len(full.Register.Moves) < mostMoves {
		var e api.Errno
		if full.Register, e = register.Issue(full.Register, 300, 1, 7, 100); e != api.OK {
			t.Fatalf("error %d", e)
		}
	}
	paid := good(t, "Pay")(Pay(example(t), 460))
	for _, c := range []struct {
		name                    string
		v                       api.Vault
		day, id, holder, amount int
		want                    api.Errno
	}{
		{"no security", example(t), -1, 3, 0, -1, api.ErrSecurity},
		{"no coupons", example(t), -1, 4, 0, -1, api.ErrSecurity},
		{"the maturity", example(t), 820, 1, 8, 100, api.ErrOrder},
		{"before the issue", vault(t), 99, 1, 8, 100, api.ErrOrder},
		{"a coupon was not paid", example(t), 460, 1, 8, 100000, api.ErrOrder},
		{"a coupon was paid", paid, 460, 1, 8, 500, api.OK},
		{"a coupon was paid ahead", paid, 459, 1, 8, 500, api.ErrOrder},
		{"a coupon is missing", example(t), 310, 1, 7, 100, api.ErrHolding},
		{"coupons without a principal", example(t), 310, 1, 9, 100, api.ErrHolding},
		{"less of all", example(t), 310, 1, 8, 600, api.ErrHolding},
		{"less of all, and no multiple", example(t), 310, 1, 8, 550, api.ErrHolding},
		{"nothing was split", example(t), 310, 2, 8, 100, api.ErrHolding},
		{"nobody", example(t), 310, 1, 0, 100, api.ErrHolding},
		{"Stripped", example(t), 310, 1, stripped, 100, api.ErrHolding},
		{"full", full, 310, 1, 8, 500, api.ErrLimit},
		{"before the last move", example(t), 299, 1, 8, 500, api.ErrOrder},
		{"no multiple", example(t), 310, 1, 8, 450, api.ErrUnit},
		{"an amount of 0", example(t), 310, 1, 8, 0, api.ErrUnit},
		{"an amount below 0", example(t), 310, 1, 9, -100, api.ErrUnit},
		{"an amount of 0 of nobody", example(t), 310, 2, 0, 0, api.ErrUnit},
		{"all that it has", example(t), 310, 1, 8, 500, api.OK},
	} {
		got, e := Join(c.v, c.day, c.id, c.holder, c.amount)
		if e != c.want || e != api.OK && !same(got, api.Vault{}) || e == api.OK && Check(got) != api.OK {
			t.Errorf("%s: error %d, not %d", c.name, e, c.want)
		}
	}
}

// P37.3

func TestMove(t *testing.T) {
	v := example(t)
	kept := fmt.Sprint(v)
	got := good(t, "Move")(Move(v, coupons(1, 460, 7, 1000), 8))
	if !slices.Equal(got.Strips[:2], []api.Strip{coupons(1, 460, 7, 2000), coupons(1, 460, 8, 1500)}) || kept != fmt.Sprint(v) || len(got.Strips) != 9 {
		t.Errorf("%v", got)
	}
	got.Register.Holdings[0].Amount = -1
	if kept != fmt.Sprint(v) {
		t.Error("memory is shared")
	}
	got = good(t, "Move")(Move(v, principal(1, 9, 1000), 1))
	if !slices.Equal(got.Strips[6:], []api.Strip{principal(1, 1, 1000), principal(1, 7, 2000), principal(1, 8, 500)}) {
		t.Errorf("%v", got)
	}
	for _, c := range []struct {
		name string
		v    api.Vault
		x    api.Strip
		to   int
		want api.Errno
	}{
		{"no security", v, coupons(3, 460, 7, 1000), 0, api.ErrUnit},
		{"an amount of 0", v, coupons(1, 460, 7, 0), 0, api.ErrUnit},
		{"an amount below 0", v, coupons(1, 460, 7, -100), 0, api.ErrUnit},
		{"no multiple", v, coupons(1, 460, 7, 150), 0, api.ErrUnit},
		{"the least number", v, coupons(1, 460, 7, math.MinInt), 8, api.ErrUnit},
		{"to 0", v, coupons(1, 460, 5, 100), 0, api.ErrUnknown},
		{"to 1001", v, coupons(1, 460, 5, 100), 1001, api.ErrUnknown},
		{"to Stripped", v, coupons(1, 460, 7, 100), stripped, api.ErrUnknown},
		{"to itself", v, coupons(1, 460, 5, 100), 5, api.ErrUnknown},
		{"more than it has", v, coupons(1, 460, 8, 600), 7, api.ErrHolding},
		{"nothing", v, coupons(1, 460, 9, 100), 7, api.ErrHolding},
		{"no such day", v, coupons(1, 461, 7, 100), 8, api.ErrHolding},
		{"a day that was paid", v, coupons(1, 280, 7, 100), 8, api.ErrHolding},
		{"no principal of that day", v, api.Strip{Security: 1, Day: 460, Principal: true, Holder: 7, Amount: 100}, 8, api.ErrHolding},
		{"another security", v, coupons(2, 460, 7, 100), 8, api.ErrHolding},
		{"a bill", v, principal(4, 7, 100), 8, api.ErrHolding},
		{"a great amount", v, coupons(1, 460, 7, mostAmount+100), 8, api.ErrHolding},
		{"all of it to 999", v, coupons(1, 460, 7, 3000), 999, api.OK},
		{"399 strips", crowd(t, mostStrips-1), principal(1, 7, 100), 8, api.OK},
		{"400 strips", crowd(t, mostStrips), principal(1, 7, 100), 8, api.ErrLimit},
		{"400 strips, and all of one", crowd(t, mostStrips), principal(1, 7, mostStrips*100), 8, api.OK},
		{"400 strips, and no more", crowd(t, mostStrips), coupons(1, 280, 7, 100), 8, api.OK},
	} {
		got, e := Move(c.v, c.x, c.to)
		if e != c.want || e != api.OK && !same(got, api.Vault{}) || e == api.OK && Check(got) != api.OK {
			t.Errorf("%s: error %d, not %d", c.name, e, c.want)
		}
	}
	for x, want := range map[api.Strip]int{coupons(1, 460, 7, -5): 3000, coupons(1, 640, 9, 0): 3000, principal(1, 9, 0): 1000, principal(1, 7, 9999): 2000, coupons(1, 820, 9, 0): 0, coupons(1, 280, 7, 0): 0, coupons(2, 460, 7, 0): 0, {}: 0} {
		if got := Held(v, x); got != want {
			t.Errorf("%v: %d, not %d", x, got, want)
		}
	}
}

// P37.4

func TestRights(t *testing.T) {
	v := example(t)
	for _, c := range []struct {
		id, day   int
		principal bool
		want      int
	}{
		{1, 460, false, 12000}, {1, 640, false, 12000}, {1, 820, false, 12000}, {1, 820, true, 12000}, {1, 280, false, 8500},
		{1, 460, true, 0}, {1, 459, false, 0}, {1, 100, false, 0}, {1, 821, true, 0}, {2, 280, false, 12000}, {2, 820, true, 12000}, {3, 820, true, 0}, {0, 0, false, 0}, {4, 820, false, 0}, {4, 460, false, 0},
		{4, 820, true, 0}, // it has no coupon days at all
		{1, math.MinInt, true, 0}, {math.MaxInt, 820, true, 0},
	} {
		if got := Rights(v, c.id, c.day, c.principal); got != c.want {
			t.Errorf("%d, day %d, %v: %d, not %d", c.id, c.day, c.principal, got, c.want)
		}
	}
}

func TestPending(t *testing.T) {
	v := example(t)
	v.Register = func() api.Register {
		r, e := register.Transfer(v.Register, 300, 2, 7, 9, 10000)
		if e != api.OK {
			t.Fatalf("error %d", e)
		}
		return r
	}()
	// Unstripped, the holder 7 has 7000 and the holder 8 1500 of the security 1; of the security 2 they have 0 and 2000, and 9 has 10000.
	for day, want := range map[int][]api.Due{
		279: nil, 459: nil, 461: nil,
		280: {due(280, 1, 7, 1, 250), due(280, 1, 8, 1, 50), due(280, 2, 7, 1, 250), due(280, 2, 8, 1, 50)},
		460: {due(460, 1, 7, 1, 250), due(460, 1, 8, 1, 38+13), due(460, 2, 8, 1, 50), due(460, 2, 9, 1, 250)},
		640: {due(640, 1, 7, 1, 175), due(640, 1, 8, 1, 38+13), due(640, 1, 9, 1, 75), due(640, 2, 8, 1, 50), due(640, 2, 9, 1, 250)},
		820: {due(820, 1, 7, 1, 250), due(820, 1, 7, 2, 9000), due(820, 1, 8, 1, 51), due(820, 1, 8, 2, 2000), due(820, 1, 9, 2, 1000), due(820, 2, 8, 1, 50), due(820, 2, 8, 2, 2000), due(820, 2, 9, 1, 250), due(820, 2, 9, 2, 10000), due(820, 4, 7, 2, 10000), due(820, 4, 8, 2, 2000)},
	} {
		if got, e := Pending(v, day); e != api.OK || !slices.Equal(got, want) {
			t.Errorf("day %d: %v, error %d, not %v", day, got, e, want)
		}
	}
	for _, day := range []int{-1, lastDay - 9, math.MaxInt} {
		if got, e := Pending(v, day); e != api.ErrRange || len(got) > 0 {
			t.Errorf("day %d: %v, error %d", day, got, e)
		}
	}
	if _, e := Pending(v, lastDay-10); e != api.OK {
		t.Errorf("error %d", e)
	}
	// A coupon of 0 is left out.
	low := bond(1)
	low.Rate = 1
	r := issued(t, api.Register{Securities: []api.Security{low}}, 1, 7, 100)
	small := good(t, "Split")(Split(good(t, "New")(New(r)), 100, 1, 7, 100))
	if got, e := Pending(small, 820); e != api.OK || !slices.Equal(got, []api.Due{due(820, 1, 7, 2, 100)}) {
		t.Errorf("%v, error %d", got, e)
	}
}

// P37.5

func TestPay(t *testing.T) {
	v := good(t, "Split")(Split(example(t), 300, 2, 7, 100))
	kept := fmt.Sprint(v)
	for _, c := range []struct{ day, strips int }{{0, 9 + 4}, {459, 13}, {460, 10}, {639, 10}, {640, 7}, {819, 7}} {
		got := good(t, "Pay")(Pay(v, c.day))
		if len(got.Strips) != c.strips || fmt.Sprint(got.Register) != fmt.Sprint(v.Register) || kept != fmt.Sprint(v) {
			t.Errorf("day %d: %v", c.day, got)
		}
		got.Register.Holdings[0].Amount = -1
		if len(got.Strips) > 0 {
			got.Strips[0].Amount = -1
		}
	}
	for _, day := range []int{820, 900, lastDay} {
		got := good(t, "Pay")(Pay(v, day))
		want, _ := register.Redeem(v.Register, day, 1, stripped, 3500)
		want, _ = register.Redeem(want, day, 2, stripped, 100)
		if len(got.Strips) > 0 || fmt.Sprint(got.Register) != fmt.Sprint(want) {
			t.Errorf("day %d: %v, not %v", day, got, want)
		}
	}
	if kept != fmt.Sprint(v) {
		t.Error("memory is shared")
	}
	again := good(t, "Pay")(Pay(good(t, "Pay")(Pay(v, 820)), 820))
	if len(again.Register.Moves) != len(v.Register.Moves)+2 {
		t.Errorf("%v", again)
	}
	// A matured security does not take the strips of others with it.
	long := bond(2)
	long.Maturity = 1000
	r := issued(t, issued(t, api.Register{Securities: []api.Security{bond(1), long}}, 1, 7, 100), 2, 7, 100)
	both := good(t, "Split")(Split(good(t, "New")(New(r)), 100, 1, 7, 100))
	both = good(t, "Split")(Split(both, 100, 2, 7, 100))
	both = good(t, "Pay")(Pay(both, 820))
	if len(both.Strips) != 2 || register.Outstanding(both.Register, 1) != 0 || register.Outstanding(both.Register, 2) != 100 {
		t.Errorf("%v", both)
	}
}

func TestErrorsOfPay(t *testing.T) {
	v := example(t)
	full := example(t)
	for len(full.Register.Moves) < mostMoves {
		full.Register, _ = register.Issue(full.Register, 300, 1, 7, 100)
	}
	late := example(t)
	var e api.Errno
	if late.Register, e = register.Redeem(late.Register, 900, 4, 7, 100); e != api.OK {
		t.Fatalf("error %d", e)
	}
	for _, c := range []struct {
		name string
		v    api.Vault
		day  int
		want api.Errno
	}{
		{"before day 0", v, -1, api.ErrRange}, {"behind the last day", v, lastDay + 1, api.ErrRange}, {"the least", v, math.MinInt, api.ErrRange}, {"the last day", v, lastDay, api.OK},
		{"full", full, 820, api.ErrLimit}, {"full, and nothing to redeem", full, 819, api.OK}, {"before the last move", late, 820, api.ErrOrder}, {"before the last move, and nothing to redeem", late, 640, api.OK}, {"on the day of the last move", late, 900, api.OK},
		{"full, and nothing stripped", func() api.Vault { full := full; full.Strips = nil; full.Register = vaultOf(t, mostMoves); return full }(), 820, api.OK},
	} {
		if got, e := Pay(c.v, c.day); e != c.want || e != api.OK && !same(got, api.Vault{}) {
			t.Errorf("%s: error %d, not %d", c.name, e, c.want)
		}
	}
}

// vaultOf is a register with so many moves, of which nothing is stripped.
func vaultOf(t *testing.T, moves int) api.Register {
	t.Helper()
	r := api.Register{Securities: []api.Security{bond(1)}}
	for range moves {
		r = issued(t, r, 1, 7, 100)
	}
	return r
}

// The consequences

func TestRandomVaults(t *testing.T) {
	r := rand.New(rand.NewSource(371))
	for range 60 {
		v := vault(t)
		day := 100
		paid := day
		for range 40 {
			id, holder, to, amount := 1+r.Intn(2), 7+r.Intn(2), 7+r.Intn(3), 100*(1+r.Intn(15))
			next, e := v, api.OK
			switch r.Intn(4) {
			case 0:
				next, e = Split(v, day, id, holder, amount)
			case 1:
				next, e = Join(v, day, id, holder, amount)
			case 2:
				x := Parts(bond(id), day)
				if len(x) > 0 {
					y := x[r.Intn(len(x))]
					y.Holder, y.Amount = holder, amount
					next, e = Move(v, y, to)
				}
			case 3:
				day += r.Intn(60)
				next, e = Pay(v, day)
				if e == api.OK {
					paid = day
				}
			}
			if e != api.OK {
				continue
			}
			if Check(next) != api.OK {
				t.Fatalf("error %d", Check(next))
			}
			// Nobody's right to what is due later is changed.
			for _, id := range []int{1, 2} {
				for _, d := range coupon.Days(bond(id)) {
					if d > paid && (Rights(v, id, d, false) != Rights(next, id, d, false) || Rights(next, id, d, false) != 12000) {
						t.Fatalf("%d, day %d: %d, not %d", id, d, Rights(next, id, d, false), Rights(v, id, d, false))
					}
				}
				if paid < 820 && Rights(next, id, 820, true) != 12000 {
					t.Fatalf("%d: %d", id, Rights(next, id, 820, true))
				}
			}
			if paid < 820 && register.Debt(next.Register) != 36000 {
				t.Fatalf("a debt of %d", register.Debt(next.Register))
			}
			v = next
		}
	}
}
