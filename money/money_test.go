package money

import (
	"math"
	"math/big"
	"math/rand"
	"slices"
	"testing"

	"treasury/api"
)

// extremes are numbers at the ends of all ranges of the package, beyond them, and at the ends of int.
func extremes() []int {
	l := []int{math.MinInt, math.MinInt + 1, math.MaxInt - 1, math.MaxInt}
	for _, end := range []int{0, 100, api.MaxWeight, api.MaxAmount, api.MaxTotal, -api.MaxWeight, -api.MaxAmount, -api.MaxTotal, 1 << 32, 1 << 62} {
		l = append(l, end-1, end, end+1)
	}
	return l
}

// expect compares a number and an error with those that are wanted; with an error the number has to be 0.
func expect(t *testing.T, got int, e api.Errno, want int, wantErr api.Errno, call string, arguments ...int) {
	t.Helper()
	if got != want || e != wantErr {
		t.Errorf("%s of %v: %d, error %d, not %d, error %d", call, arguments, got, e, want, wantErr)
	}
}

// The ranges are written out here as the document has them, so that a wrong limit shows.
func isAmount(n int) bool { return n >= 0 && n <= 1000000000000 }
func isTotal(n int) bool  { return n >= -1000000000000000 && n <= 1000000000000000 }
func isWeight(n int) bool { return n >= 0 && n <= 1000000 }

// P1.1

func TestValidAndTotal(t *testing.T) {
	for _, c := range []struct {
		n             int
		amount, total bool
	}{
		{0, true, true},
		{1, true, true},
		{-1, false, true},
		{1000000000000, true, true},
		{1000000000001, false, true},
		{-1000000000000, false, true},
		{1000000000000000, false, true},
		{1000000000000001, false, false},
		{-1000000000000000, false, true},
		{-1000000000000001, false, false},
		{math.MaxInt, false, false},
		{math.MinInt, false, false},
	} {
		if got := Valid(c.n); got != c.amount {
			t.Errorf("Valid of %d: %v", c.n, got)
		}
		if got := Total(c.n); got != c.total {
			t.Errorf("Total of %d: %v", c.n, got)
		}
	}
}

func TestAdd(t *testing.T) {
	for _, c := range []struct {
		a, b, want int
		e          api.Errno
	}{
		{2, 3, 5, api.OK},
		{2, -3, -1, api.OK},
		{0, 0, 0, api.OK},
		{api.MaxTotal, 0, api.MaxTotal, api.OK},
		{api.MaxTotal - 1, 1, api.MaxTotal, api.OK},
		{api.MaxTotal, -api.MaxTotal, 0, api.OK},
		{1 - api.MaxTotal, -1, -api.MaxTotal, api.OK},
		{api.MaxTotal, 1, 0, api.ErrRange},
		{-api.MaxTotal, -1, 0, api.ErrRange},
		{api.MaxTotal, api.MaxTotal, 0, api.ErrRange},
		{-api.MaxTotal, -api.MaxTotal, 0, api.ErrRange},
		// Here the sum would be a total, but an argument is none.
		{api.MaxTotal + 1, -1, 0, api.ErrRange},
		{-api.MaxTotal - 1, 1, 0, api.ErrRange},
		// Here the sum would wrap, to a total.
		{math.MinInt, math.MinInt, 0, api.ErrRange},
		{math.MinInt, math.MaxInt, 0, api.ErrRange},
		{math.MaxInt, math.MaxInt, 0, api.ErrRange},
	} {
		got, e := Add(c.a, c.b)
		expect(t, got, e, c.want, c.e, "Add", c.a, c.b)
		got, e = Add(c.b, c.a)
		expect(t, got, e, c.want, c.e, "Add", c.b, c.a)
	}
}

func TestAddExtremes(t *testing.T) {
	for _, a := range extremes() {
		for _, b := range extremes() {
			want, e := 0, api.ErrRange
			if isTotal(a) && isTotal(b) && isTotal(a+b) {
				want, e = a+b, api.OK
			}
			got, err := Add(a, b)
			expect(t, got, err, want, e, "Add", a, b)
		}
	}
}

func TestSum(t *testing.T) {
	const most = api.MaxTotal
	for _, c := range []struct {
		l    []int
		want int
		e    api.Errno
	}{
		{nil, 0, api.OK},
		{[]int{}, 0, api.OK},
		{[]int{5}, 5, api.OK},
		{[]int{5, -7, 12}, 10, api.OK},
		{[]int{most}, most, api.OK},
		{[]int{-most}, -most, api.OK},
		{[]int{most, -most, most}, most, api.OK},
		{[]int{most, -1, 1}, most, api.OK},
		// The whole sum would be a total in each of these.
		{[]int{most, 1, -1}, 0, api.ErrRange},
		{[]int{-most, -1, 1}, 0, api.ErrRange},
		{[]int{1, most, -1}, 0, api.ErrRange},
		{[]int{most + 1, -1}, 0, api.ErrRange},
		{[]int{-1, most + 1}, 0, api.ErrRange},
		{[]int{1, -most - 1}, 0, api.ErrRange},
		{[]int{most + 1}, 0, api.ErrRange},
		{[]int{-most - 1}, 0, api.ErrRange},
		{[]int{3, 4, most}, 0, api.ErrRange},
		{[]int{math.MinInt, math.MinInt}, 0, api.ErrRange},
		{[]int{1, 2, math.MaxInt, 3}, 0, api.ErrRange},
	} {
		got, e := Sum(c.l)
		expect(t, got, e, c.want, c.e, "Sum", c.l...)
	}
}

func TestSumOfManyElements(t *testing.T) {
	got, e := Sum(slices.Repeat([]int{api.MaxTotal / 1000}, 1000))
	expect(t, got, e, api.MaxTotal, api.OK, "Sum of 1000 elements")
	got, e = Sum(slices.Repeat([]int{api.MaxTotal / 1000}, 1001))
	expect(t, got, e, 0, api.ErrRange, "Sum of 1001 elements")
}

func TestSumLeavesItsArgument(t *testing.T) {
	l := []int{3, -5, 10}
	Sum(l)
	if !slices.Equal(l, []int{3, -5, 10}) {
		t.Errorf("Sum changed its argument to %v", l)
	}
}

// P1.2

func TestPercent(t *testing.T) {
	for _, c := range []struct {
		amount, percent, want int
		e                     api.Errno
	}{
		{1000, 25, 250, api.OK},
		{99, 33, 32, api.OK},
		{199, 50, 99, api.OK},
		{1, 99, 0, api.OK},
		{1, 100, 1, api.OK},
		{99, 0, 0, api.OK},
		{0, 100, 0, api.OK},
		{api.MaxAmount, 100, api.MaxAmount, api.OK},
		{api.MaxAmount, 99, 990000000000, api.OK},
		{api.MaxAmount - 1, 99, 989999999999, api.OK},
		{-1, 50, 0, api.ErrRange},
		{api.MaxAmount + 1, 50, 0, api.ErrRange},
		{api.MaxAmount + 1, 0, 0, api.ErrRange},
		{100, -1, 0, api.ErrRange},
		{100, 101, 0, api.ErrRange},
		{0, 101, 0, api.ErrRange},
		{math.MinInt, math.MaxInt, 0, api.ErrRange},
		{1 << 62, 4, 0, api.ErrRange},
	} {
		got, e := Percent(c.amount, c.percent)
		expect(t, got, e, c.want, c.e, "Percent", c.amount, c.percent)
	}
}

func TestPercentExtremes(t *testing.T) {
	for _, amount := range extremes() {
		for _, percent := range extremes() {
			want, e := 0, api.ErrRange
			if isAmount(amount) && percent >= 0 && percent <= 100 {
				want, e = amount*percent/100, api.OK
			}
			got, err := Percent(amount, percent)
			expect(t, got, err, want, e, "Percent", amount, percent)
			if got > max(amount, 0) {
				t.Errorf("Percent of %d and %d is more than the amount", amount, percent)
			}
		}
	}
}

func TestShare(t *testing.T) {
	for _, c := range []struct {
		amount, num, den, want int
		e                      api.Errno
	}{
		{5, 1, 2, 3, api.OK}, // the example: 2 and a half
		{1, 1, 2, 1, api.OK},
		{1, 49, 100, 0, api.OK},
		{1, 50, 100, 1, api.OK},
		{1, 51, 100, 1, api.OK},
		{1, 1, 3, 0, api.OK}, // half of an odd denominator is no whole number
		{2, 1, 3, 1, api.OK},
		{3, 1, 7, 0, api.OK},
		{4, 1, 7, 1, api.OK},
		{7, 0, 5, 0, api.OK},
		{0, 7, 5, 0, api.OK},
		{10, 3, 1, 30, api.OK},
		{10, 3, 2, 15, api.OK},
		{499999, 1, api.MaxWeight, 0, api.OK},
		{500000, 1, api.MaxWeight, 1, api.OK},
		{api.MaxAmount, api.MaxWeight, api.MaxWeight, api.MaxAmount, api.OK},
		{api.MaxWeight, api.MaxWeight, 1, api.MaxAmount, api.OK},
		{api.MaxAmount, 1, 1, api.MaxAmount, api.OK},
		// The result is just an amount, or just none.
		{api.MaxWeight + 1, api.MaxWeight, 1, 0, api.ErrRange},
		{666666666667, 3, 2, 0, api.ErrRange},
		{666666666666, 3, 2, 999999999999, api.OK},
		{api.MaxAmount - 1, 2, 2, api.MaxAmount - 1, api.OK},
		{api.MaxAmount, 3, 2, 0, api.ErrRange},
		{api.MaxAmount, api.MaxWeight, api.MaxWeight - 1, 0, api.ErrRange},
		{api.MaxAmount, api.MaxWeight, 1, 0, api.ErrRange},
		{-1, 1, 1, 0, api.ErrRange},
		{api.MaxAmount + 1, 1, 2, 0, api.ErrRange},
		{1, -1, 1, 0, api.ErrRange},
		{1, api.MaxWeight + 1, api.MaxWeight, 0, api.ErrRange},
		{1, 1, 0, 0, api.ErrRange},
		{0, 0, 0, 0, api.ErrRange},
		{1, 1, -1, 0, api.ErrRange},
		{1, 1, api.MaxWeight + 1, 0, api.ErrRange},
		{1, -1, -1, 0, api.ErrRange},
	} {
		got, e := Share(c.amount, c.num, c.den)
		expect(t, got, e, c.want, c.e, "Share", c.amount, c.num, c.den)
	}
}

// exactShare computes a share without bounds: the whole part, and 1 more if the rest is at least a half.
func exactShare(amount, num, den int) (int, api.Errno) {
	if !isAmount(amount) || !isWeight(num) || !isWeight(den) || den == 0 {
		return 0, api.ErrRange
	}
	product := new(big.Int).Mul(big.NewInt(int64(amount)), big.NewInt(int64(num)))
	whole, rest := new(big.Int).QuoRem(product, big.NewInt(int64(den)), new(big.Int))
	if rest.Lsh(rest, 1).Cmp(big.NewInt(int64(den))) >= 0 {
		whole.Add(whole, big.NewInt(1))
	}
	if whole.Cmp(big.NewInt(api.MaxAmount)) > 0 {
		return 0, api.ErrRange
	}
	return int(whole.Int64()), api.OK
}

func TestShareExtremes(t *testing.T) {
	for _, amount := range extremes() {
		for _, num := range extremes() {
			for _, den := range extremes() {
				want, e := exactShare(amount, num, den)
				got, err := Share(amount, num, den)
				expect(t, got, err, want, e, "Share", amount, num, den)
			}
		}
	}
}

func TestShareOfManyNumbers(t *testing.T) {
	r := rand.New(rand.NewSource(1))
	for range 20000 {
		amount, num, den := r.Intn(api.MaxAmount+1), r.Intn(api.MaxWeight+1), 1+r.Intn(api.MaxWeight)
		if r.Intn(2) == 0 {
			amount, num, den = r.Intn(30), r.Intn(10), 1+r.Intn(10)
		}
		want, e := exactShare(amount, num, den)
		got, err := Share(amount, num, den)
		expect(t, got, err, want, e, "Share", amount, num, den)
	}
}

// P1.3

func TestParts(t *testing.T) {
	for _, c := range []struct {
		total   int
		weights []int
		want    []int
	}{
		{10, []int{1, 1, 1}, []int{4, 3, 3}}, // the examples
		{7, []int{2, 0, 3}, []int{3, 0, 4}},
		{0, []int{1, 2, 3}, []int{0, 0, 0}},
		{9, []int{4}, []int{9}},
		{6, []int{1, 2, 3}, []int{1, 2, 3}},
		{1, []int{1, 2}, []int{0, 1}},        // the greatest rest is not the first one
		{11, []int{1, 1, 1}, []int{4, 4, 3}}, // equal rests: the first ones
		{2, []int{1, 1, 1, 1}, []int{1, 1, 0, 0}},
		{8, []int{3, 3, 3, 1}, []int{3, 2, 2, 1}}, // the greatest rest, then the first one of equal ones
		{5, []int{3, 2, 2}, []int{2, 2, 1}},
		{3, []int{1, 3, 3}, []int{1, 1, 1}}, // a small weight with the greatest rest
		{2, []int{0, 1, 0, 1, 1, 0}, []int{0, 1, 0, 1, 0, 0}},
		{1, []int{0, 0, 1}, []int{0, 0, 1}},
		{1, []int{1000000, 1000000, 1000000}, []int{1, 0, 0}},
		{1000000000000, []int{1000000, 1000000, 1000000}, []int{333333333334, 333333333333, 333333333333}},
		{1000000000000, []int{1000000}, []int{1000000000000}},
		{1000000000000, []int{0, 1000000, 999999}, []int{0, 500000250000, 499999750000}},
	} {
		got, e := Parts(c.total, c.weights)
		if e != api.OK || !slices.Equal(got, c.want) {
			t.Errorf("Parts of %d and %v: %v, error %d, not %v", c.total, c.weights, got, e, c.want)
		}
	}
}

func TestPartsErrors(t *testing.T) {
	list := func(w, n int) []int { return slices.Repeat([]int{w}, n) }
	for _, c := range []struct {
		name    string
		total   int
		weights []int
		e       api.Errno
	}{
		{"negative amount", -1, []int{1}, api.ErrRange},
		{"great amount", api.MaxAmount + 1, []int{1}, api.ErrRange},
		{"least int", math.MinInt, []int{1}, api.ErrRange},
		{"greatest int", math.MaxInt, []int{1}, api.ErrRange},
		{"negative weight", 5, []int{1, -1, 1}, api.ErrRange},
		{"great weight", 5, []int{1, 1, api.MaxWeight + 1}, api.ErrRange},
		{"weights that add up to 0", 5, []int{-1, 1}, api.ErrRange},
		{"weights that wrap", 5, []int{math.MinInt, math.MinInt, 1}, api.ErrRange},
		{"too many weights", 5, list(1, 201), api.ErrLimit},
		{"many too many weights", 5, list(api.MaxWeight, 5000), api.ErrLimit},
		{"weights of 0", 5, []int{0, 0}, api.ErrInvalid},
		{"as many weights of 0 as there may be", 5, list(0, 200), api.ErrInvalid},
		{"no weights", 5, nil, api.ErrInvalid},
		{"an empty list of weights", 5, []int{}, api.ErrInvalid},
		{"nothing of nothing", 0, nil, api.ErrInvalid},
		{"an amount ahead of too many weights", -1, list(1, 201), api.ErrRange},
		{"an amount ahead of weights of 0", api.MaxAmount + 1, []int{0}, api.ErrRange},
		{"a weight ahead of too many", 5, append(list(1, 200), -1), api.ErrRange},
		{"a weight ahead of weights of 0", 5, []int{0, -1}, api.ErrRange},
		{"too many ahead of weights of 0", 5, list(0, 201), api.ErrLimit},
	} {
		got, e := Parts(c.total, c.weights)
		if e != c.e || len(got) != 0 {
			t.Errorf("Parts, %s: %v, error %d, not error %d", c.name, got, e, c.e)
		}
	}
}

// exactParts divides without bounds and without sorting: it looks for the greatest rest as often as something is left over.
func exactParts(total int, weights []int) []int {
	sum := new(big.Int)
	for _, w := range weights {
		sum.Add(sum, big.NewInt(int64(w)))
	}
	parts, rests, left := make([]int, len(weights)), make([]*big.Int, len(weights)), total
	for i, w := range weights {
		product := new(big.Int).Mul(big.NewInt(int64(total)), big.NewInt(int64(w)))
		whole, rest := new(big.Int).QuoRem(product, sum, new(big.Int))
		parts[i], rests[i] = int(whole.Int64()), rest
		left -= parts[i]
	}
	for range left {
		best := 0
		for i := range rests {
			if rests[i].Cmp(rests[best]) > 0 {
				best = i
			}
		}
		parts[best]++
		rests[best] = big.NewInt(-1)
	}
	return parts
}

func TestPartsOfManyLists(t *testing.T) {
	r := rand.New(rand.NewSource(2))
	for range 3000 {
		most := []int{1, 2, 5, 100, api.MaxWeight}[r.Intn(5)]
		weights := make([]int, 1+r.Intn(api.MaxParts))
		for i := range weights {
			weights[i] = r.Intn(most + 1)
		}
		weights[r.Intn(len(weights))] = most
		total := []int{r.Intn(10), r.Intn(1000), r.Intn(api.MaxAmount + 1), api.MaxAmount}[r.Intn(4)]
		got, e := Parts(total, weights)
		if want := exactParts(total, weights); e != api.OK || !slices.Equal(got, want) {
			t.Fatalf("Parts of %d and %v: %v, error %d, not %v", total, weights, got, e, want)
		}
		checkParts(t, total, weights, got)
	}
}

// checkParts checks the chapter's consequences: parts add up to the amount, each is less than 1 from its exact share, and a weight of 0 gets nothing.
func checkParts(t *testing.T, total int, weights, parts []int) {
	t.Helper()
	all, sum := 0, 0
	for i := range weights {
		all += parts[i]
		sum += weights[i]
	}
	if all != total {
		t.Errorf("Parts of %d and %v add up to %d", total, weights, all)
	}
	for i, w := range weights {
		if w == 0 && parts[i] != 0 {
			t.Errorf("Parts of %d and %v: a weight of 0 gets %d", total, weights, parts[i])
		}
		// The distance from the exact share, times the sum of the weights.
		away := new(big.Int).Mul(big.NewInt(int64(parts[i])), big.NewInt(int64(sum)))
		away.Sub(away, new(big.Int).Mul(big.NewInt(int64(total)), big.NewInt(int64(w))))
		if away.CmpAbs(big.NewInt(int64(sum))) >= 0 {
			t.Errorf("Parts of %d and %v: part %d is %d", total, weights, i, parts[i])
		}
	}
}

func TestPartsOfAsManyWeightsAsThereMayBe(t *testing.T) {
	got, e := Parts(api.MaxAmount-1, slices.Repeat([]int{api.MaxWeight}, 200))
	want := slices.Repeat([]int{5000000000}, 200)
	want[199]--
	if e != api.OK || !slices.Equal(got, want) {
		t.Errorf("Parts of 200 great weights: %v, error %d", got, e)
	}
	got, e = Parts(77, slices.Repeat([]int{1}, 200))
	want = append(slices.Repeat([]int{1}, 77), make([]int, 123)...)
	if e != api.OK || !slices.Equal(got, want) {
		t.Errorf("Parts of 200 equal weights: %v, error %d", got, e)
	}
}

func TestPartsLeavesItsArgument(t *testing.T) {
	weights := []int{1, 5, 3, 5}
	got, _ := Parts(10, weights)
	if !slices.Equal(weights, []int{1, 5, 3, 5}) {
		t.Errorf("Parts changed its argument to %v", weights)
	}
	got[0] = 99
	if weights[0] != 1 {
		t.Error("the result of Parts shares memory with its argument")
	}
	again, _ := Parts(10, weights)
	if !slices.Equal(again, []int{1, 4, 2, 3}) {
		t.Errorf("Parts gave %v the second time", again)
	}
}

// P1

func TestPartsExtremes(t *testing.T) {
	for _, total := range extremes() {
		for _, a := range extremes() {
			for _, b := range extremes() {
				got, e := Parts(total, []int{a, b})
				want := api.OK
				if !isAmount(total) || !isWeight(a) || !isWeight(b) {
					want = api.ErrRange
				} else if a+b == 0 {
					want = api.ErrInvalid
				}
				if e != want || e != api.OK && len(got) != 0 {
					t.Fatalf("Parts of %d, %d and %d: %v, error %d, not %d", total, a, b, got, e, want)
				}
				if e == api.OK {
					checkParts(t, total, []int{a, b}, got)
				}
			}
		}
	}
}
