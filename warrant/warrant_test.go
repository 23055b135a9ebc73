package warrant

import (
	"encoding/binary"
	"fmt"
	"hash/fnv"
	"math"
	"math/rand"
	"regexp"
	"slices"
	"strings"
	"testing"

	"treasury/api"
	"treasury/classification"
	"treasury/office"
)

// The limits are written out here as the document has them, so that a wrong one shows.
const (
	mostAmount   = 1000000000000
	mostNumber   = 1000000
	mostOffices  = 6
	mostWarrants = 200
	lastDay      = 35990
)

// good is a plain warrant.
func good() api.Warrant {
	return api.Warrant{Number: 7, Office: 2, Code: "1.10", Year: 12, Reservation: 3, Commitment: 4, Verification: 5, Attempt: 1, Amount: 250, Payee: 9, Day: 4400, Due: 4430}
}

const goodBytes = "warrant 7 2 1.10 12 3 4 5 1 250 9 4400 4430"

// keysOf returns the keys of so many offices.
func keysOf(offices int) []uint64 {
	var keys []uint64
	for k := range 2 * offices {
		keys = append(keys, 0xf1e2d3c4b5a69788*uint64(k+1)+7)
	}
	return keys
}

// signedOf returns a warrant with both signatures.
func signedOf(t *testing.T, w api.Warrant) api.Warrant {
	t.Helper()
	for _, second := range []bool{false, true} {
		x, e := Sign(keysOf(mostOffices), w, second)
		if e != api.OK {
			t.Fatalf("%v: error %d", w, e)
		}
		w = x
	}
	return w
}

// signatureOf is a reference: the hash of a key and the bytes of a warrant.
func signatureOf(key uint64, w api.Warrant) uint64 {
	h := fnv.New64a()
	h.Write(binary.BigEndian.AppendUint64(nil, key))
	fmt.Fprint(h, "warrant ", w.Number, " ", w.Office, " ", w.Code, " ", w.Year, " ", w.Reservation, " ", w.Commitment, " ", w.Verification, " ", w.Attempt, " ", w.Amount, " ", w.Payee, " ", w.Day, " ", w.Due)
	return h.Sum64()
}

// numberOf is a number of a warrant: how it is changed, and its range.
type numberOf struct {
	name        string
	at          func(w *api.Warrant) *int
	least, most int
}

// allNumbers returns the numbers of a warrant in the order of its bytes.
func allNumbers() []numberOf {
	return []numberOf{
		{"Number", func(w *api.Warrant) *int { return &w.Number }, 1, mostNumber},
		{"Office", func(w *api.Warrant) *int { return &w.Office }, 1, mostOffices},
		{"Year", func(w *api.Warrant) *int { return &w.Year }, 0, 99},
		{"Reservation", func(w *api.Warrant) *int { return &w.Reservation }, 1, mostNumber},
		{"Commitment", func(w *api.Warrant) *int { return &w.Commitment }, 1, mostNumber},
		{"Verification", func(w *api.Warrant) *int { return &w.Verification }, 1, mostNumber},
		{"Attempt", func(w *api.Warrant) *int { return &w.Attempt }, 1, mostNumber},
		{"Amount", func(w *api.Warrant) *int { return &w.Amount }, 1, mostAmount},
		{"Payee", func(w *api.Warrant) *int { return &w.Payee }, 1, mostNumber},
		{"Day", func(w *api.Warrant) *int { return &w.Day }, 0, lastDay},
		{"Due", func(w *api.Warrant) *int { return &w.Due }, 0, lastDay},
	}
}

// P19.1

// checkPlain fails unless a warrant is plain, and has the bytes and the text of it, or neither.
func checkPlain(t *testing.T, w api.Warrant, want bool) {
	t.Helper()
	bytes, text := "", ""
	if want {
		bytes = fmt.Sprint("warrant ", w.Number, " ", w.Office, " ", w.Code, " ", w.Year, " ", w.Reservation, " ", w.Commitment, " ", w.Verification, " ", w.Attempt, " ", w.Amount, " ", w.Payee, " ", w.Day, " ", w.Due)
		text = fmt.Sprintf("%s %016x %016x", bytes, w.First, w.Second)
	}
	if Plain(w) != want || Bytes(w) != bytes || Text(w) != text {
		t.Errorf("%v: plain %v, bytes %q, text %q", w, Plain(w), Bytes(w), Text(w))
	}
	if want {
		if back, e := Parse(text); back != w || e != api.OK {
			t.Errorf("%q is %v, error %d", text, back, e)
		}
		return
	}
	keys := keysOf(mostOffices)
	for _, second := range []bool{false, true} {
		if x, e := Sign(keys, w, second); x != (api.Warrant{}) || e != api.ErrInvalid {
			t.Errorf("%v signed: %v, error %d", w, x, e)
		}
		if x, e := Sign(nil, w, second); x != (api.Warrant{}) || e != api.ErrInvalid {
			t.Errorf("%v signed without keys: %v, error %d", w, x, e)
		}
	}
	if e := Check(nil, w); e != api.ErrInvalid {
		t.Errorf("%v: error %d", w, e)
	}
	if l, e := Add(nil, w); l != nil || e != api.ErrInvalid {
		t.Errorf("%v added: %v, error %d", w, l, e)
	}
}

func TestPlain(t *testing.T) {
	if got := Bytes(good()); got != goodBytes {
		t.Errorf("bytes %q", got)
	}
	checkPlain(t, good(), true)
	checkPlain(t, api.Warrant{}, false)
	for _, c := range allNumbers() {
		for _, n := range []int{c.least - 1, c.least, c.most, c.most + 1, math.MinInt, math.MaxInt} {
			w := good()
			*c.at(&w) = n
			checkPlain(t, w, n >= c.least && n <= c.most)
		}
	}
	for code, want := range map[string]bool{"1": true, "99.99.99.99": true, "": false, "0": false, "01": false, "1.": false, "100": false, "1.1.1.1.1": false, "x": false, "1 2": false, "1\n": false} {
		w := good()
		w.Code = code
		checkPlain(t, w, want)
	}
	for _, n := range []uint64{0, 1, 0x0123456789abcdef, math.MaxUint64} {
		w := good()
		w.First, w.Second = n, ^n
		checkPlain(t, w, true)
		if Bytes(w) != goodBytes {
			t.Errorf("the bytes of %v depend on its signatures", w)
		}
	}
}

func TestHash(t *testing.T) {
	for text, want := range map[string]uint64{"": 14695981039346656037, "a": 12638187200555641996} {
		if got := Hash(text); got != want {
			t.Errorf("the hash of %q: %d", text, got)
		}
	}
	r := rand.New(rand.NewSource(191))
	for range 1000 {
		bytes := make([]byte, r.Intn(200))
		r.Read(bytes)
		h := fnv.New64a()
		h.Write(bytes)
		if got := Hash(string(bytes)); got != h.Sum64() {
			t.Fatalf("the hash of %v: %d, not %d", bytes, got, h.Sum64())
		}
	}
}

func TestSame(t *testing.T) {
	w := good()
	for _, c := range allNumbers() {
		x := w
		*c.at(&x)++
		want := c.name != "Office" && c.name != "Verification" && c.name != "Attempt"
		if Same(w, x) != want || Same(x, w) != want {
			t.Errorf("another %s: %v", c.name, Same(w, x))
		}
	}
	x := signedOf(t, w)
	x.Code = "no code"
	if !Same(w, x) || !Same(api.Warrant{}, api.Warrant{Number: -1}) {
		t.Error("what has the same basis has not")
	}
}

// P19.2

// officeOf returns an office after operations, which must be possible.
func officeOf(t *testing.T, number int, ops ...api.Op) api.Office {
	t.Helper()
	o, e := office.New(number)
	for i, op := range ops {
		if e == api.OK {
			o, e = office.Do(o, op)
		}
		if e != api.OK {
			t.Fatalf("operation %d: error %d", i, e)
		}
	}
	return o
}

// example returns office 2 with three orders, of which the first one is back.
func example(t *testing.T) api.Office {
	t.Helper()
	return officeOf(t, 2,
		api.Op{Kind: api.OpHear, Code: "1.10", Year: 12, Granted: 1000}, api.Op{Kind: api.OpHear, Code: "3", Year: 12, Granted: 1000},
		api.Op{Kind: api.OpReserve, Code: "3", Year: 12, Day: 4330, Amount: 60}, api.Op{Kind: api.OpReserve, Code: "1.10", Year: 12, Day: 4331, Amount: 700},
		api.Op{Kind: api.OpCommit, Of: 2, Day: 4335, Amount: 300, Payee: 8, Due: 4500}, api.Op{Kind: api.OpCommit, Of: 1, Day: 4336, Amount: 50, Payee: 6, Due: 4100}, api.Op{Kind: api.OpCommit, Of: 2, Day: 4337, Amount: 400, Payee: 9, Due: 4430},
		api.Op{Kind: api.OpVerify, Of: 2, Day: 4340, Amount: 40}, api.Op{Kind: api.OpVerify, Of: 3, Day: 4341, Amount: 250},
		api.Op{Kind: api.OpOrder, Of: 2, Day: 4342}, api.Op{Kind: api.OpReturned, Of: 2}, api.Op{Kind: api.OpOrder, Of: 1, Day: 4343}, api.Op{Kind: api.OpOrder, Of: 2, Day: 4400})
}

func TestMake(t *testing.T) {
	o := example(t)
	second := api.Warrant{Number: 1, Office: 2, Code: "3", Year: 12, Reservation: 1, Commitment: 2, Verification: 1, Attempt: 1, Amount: 40, Payee: 6, Day: 4343, Due: 4100}
	third := api.Warrant{Number: mostNumber, Office: 2, Code: "1.10", Year: 12, Reservation: 2, Commitment: 3, Verification: 2, Attempt: 2, Amount: 250, Payee: 9, Day: 4400, Due: 4430}
	for _, c := range []struct {
		order, number int
		want          api.Warrant
		e             api.Errno
	}{
		{2, 1, second, api.OK},
		{3, mostNumber, third, api.OK},
		{1, 5, api.Warrant{}, api.ErrState},
		{0, 5, api.Warrant{}, api.ErrUnknown},
		{4, 5, api.Warrant{}, api.ErrUnknown},
		{math.MinInt, 5, api.Warrant{}, api.ErrUnknown},
		{math.MaxInt, 5, api.Warrant{}, api.ErrUnknown},
		{2, 0, api.Warrant{}, api.ErrRange},
		{2, -1, api.Warrant{}, api.ErrRange},
		{2, mostNumber + 1, api.Warrant{}, api.ErrRange},
		{4, 0, api.Warrant{}, api.ErrUnknown},
		{1, 0, api.Warrant{}, api.ErrState},
	} {
		got, e := Make(o, c.order, c.number)
		if got != c.want || e != c.e {
			t.Errorf("order %d, number %d: %v, error %d, not %v, error %d", c.order, c.number, got, e, c.want, c.e)
		}
		if e == api.OK && !Plain(got) {
			t.Errorf("order %d is not plain", c.order)
		}
	}
	o.Book.Orders[2].Attempt = 1
	for _, order := range []int{1, 2, 9} {
		if got, e := Make(o, order, 0); got != (api.Warrant{}) || e != api.ErrInvalid {
			t.Errorf("of an office that is not valid: %v, error %d", got, e)
		}
	}
}

// P19.3

func TestSignAndCheck(t *testing.T) {
	keys := keysOf(mostOffices)
	for number := 1; number <= mostOffices; number++ {
		w := good()
		w.Office = number
		first, e := Sign(keys, w, false)
		want := w
		want.First = signatureOf(keys[2*number-2], w)
		if first != want || e != api.OK {
			t.Errorf("signed: %v, error %d, not %v", first, e, want)
		}
		if e := Check(keys, first); e != api.ErrSigned {
			t.Errorf("with one signature: error %d", e)
		}
		both, e := Sign(keys, first, true)
		want.Second = signatureOf(keys[2*number-1], w)
		if both != want || e != api.OK {
			t.Errorf("signed twice: %v, error %d, not %v", both, e, want)
		}
		if e := Check(keys, both); e != api.OK {
			t.Errorf("signed twice: error %d", e)
		}
		if again, e := Sign(keys, both, false); again != both || e != api.OK {
			t.Errorf("signed again: %v, error %d", again, e)
		}
	}
}

func TestErrorsOfSignAndCheck(t *testing.T) {
	keys := keysOf(mostOffices)
	w := signedOf(t, good())
	for _, c := range []struct {
		name                 string
		keys                 []uint64
		change               func(w *api.Warrant)
		first, second, check api.Errno
	}{
		{"as it is", keys, func(w *api.Warrant) {}, api.OK, api.OK, api.OK},
		{"keys of two offices", keys[:4], func(w *api.Warrant) {}, api.OK, api.OK, api.OK},
		{"a key less", keys[:3], func(w *api.Warrant) {}, api.OK, api.ErrUnknown, api.ErrUnknown},
		{"two keys less", keys[:2], func(w *api.Warrant) {}, api.ErrUnknown, api.ErrUnknown, api.ErrUnknown},
		{"no keys", nil, func(w *api.Warrant) {}, api.ErrUnknown, api.ErrUnknown, api.ErrUnknown},
		{"another first signature", keys, func(w *api.Warrant) { w.First++ }, api.OK, api.ErrSigned, api.ErrSigned},
		{"another second signature", keys, func(w *api.Warrant) { w.Second ^= 1 << 63 }, api.OK, api.OK, api.ErrSigned},
		{"signatures that are exchanged", keys, func(w *api.Warrant) { w.First, w.Second = w.Second, w.First }, api.OK, api.ErrSigned, api.ErrSigned},
		{"no signatures", keys, func(w *api.Warrant) { w.First, w.Second = 0, 0 }, api.OK, api.ErrSigned, api.ErrSigned},
		{"another first signature, a key less", keys[:3], func(w *api.Warrant) { w.First++ }, api.OK, api.ErrUnknown, api.ErrUnknown},
		{"another first key", append([]uint64{1, 2, 3}, keys[3:]...), func(w *api.Warrant) {}, api.OK, api.ErrSigned, api.ErrSigned},
		{"another second key", append(slices.Clone(keys[:3]), 1), func(w *api.Warrant) {}, api.OK, api.OK, api.ErrSigned},
	} {
		x := w
		c.change(&x)
		kept := slices.Clone(c.keys)
		for second, want := range map[bool]api.Errno{false: c.first, true: c.second} {
			got, e := Sign(c.keys, x, second)
			if e != want || e != api.OK && got != (api.Warrant{}) {
				t.Errorf("%s: signed %v: %v, error %d, not %d", c.name, second, got, e, want)
			}
		}
		if e := Check(c.keys, x); e != c.check {
			t.Errorf("%s: error %d, not %d", c.name, e, c.check)
		}
		if !slices.Equal(c.keys, kept) {
			t.Errorf("%s: the keys were changed", c.name)
		}
	}
}

func TestChangedWarrantsAreNotSigned(t *testing.T) {
	keys := keysOf(mostOffices)
	w := signedOf(t, good())
	for _, c := range allNumbers() {
		for _, by := range []int{-1, 1, 10} {
			x := w
			*c.at(&x) += by
			if e := Check(keys, x); Plain(x) && e != api.ErrSigned {
				t.Errorf("%s %d: error %d", c.name, by, e)
			}
		}
	}
	w.Code = "1.11"
	if e := Check(keys, w); e != api.ErrSigned {
		t.Errorf("another code: error %d", e)
	}
}

// P19.4

// textForm is a reference: what the text of a warrant looks like, but for the ranges of its numbers.
var textForm = regexp.MustCompile(`\Awarrant(?: (?:0|[1-9][0-9]*)){2} [0-9.]+(?: (?:0|[1-9][0-9]*)){9}(?: [0-9a-f]{16}){2}\z`)

func TestText(t *testing.T) {
	w := good()
	w.First, w.Second = 0xab, 0x0123456789abcdef
	if got, want := Text(w), goodBytes+" 00000000000000ab 0123456789abcdef"; got != want {
		t.Errorf("text %q, not %q", got, want)
	}
}

func TestTextsOfNoWarrant(t *testing.T) {
	const signs = " 00000000000000ab 0123456789abcdef"
	for _, text := range []string{
		"", "warrant", goodBytes, goodBytes + " 00000000000000ab", goodBytes + signs + " ", goodBytes + signs + "\n", " " + goodBytes + signs, goodBytes + " " + signs, goodBytes + signs + " 1",
		goodBytes + " 00000000000000AB 0123456789abcdef", goodBytes + " ab 0123456789abcdef", goodBytes + " 00000000000000ab 123456789abcdef", goodBytes + " 000000000000000ab 0123456789abcdef", goodBytes + " 00000000000000ab 0123456789abcdeg",
		goodBytes + " 0x000000000000ab 0123456789abcdef", goodBytes + " +0000000000000ab 0123456789abcdef", goodBytes + " 00000000000000ab 01234567_9abcdef", goodBytes + " ffffffffffffffffff 0123456789abcdef",
		"Warrant 7 2 1.10 12 3 4 5 1 250 9 4400 4430" + signs, "warrants 7 2 1.10 12 3 4 5 1 250 9 4400 4430" + signs, "7 7 2 1.10 12 3 4 5 1 250 9 4400 4430" + signs,
		"warrant 07 2 1.10 12 3 4 5 1 250 9 4400 4430" + signs, "warrant +7 2 1.10 12 3 4 5 1 250 9 4400 4430" + signs, "warrant x 2 1.10 12 3 4 5 1 250 9 4400 4430" + signs, "warrant  2 1.10 12 3 4 5 1 250 9 4400 4430" + signs,
		"warrant 7 2 01.10 12 3 4 5 1 250 9 4400 4430" + signs, "warrant 7 2 x 12 3 4 5 1 250 9 4400 4430" + signs, "warrant 7 2  12 3 4 5 1 250 9 4400 4430" + signs, "warrant 7 2 1.10 x 3 4 5 1 250 9 4400 4430" + signs, "warrant 7 2 1.10 12 3 4 5 1 250 9 4400 -1" + signs,
		"warrant 7 2 1.10 12 3 4 5 1 250 9 4400 4430.0" + signs, "warrant 7 2 1.10 12 3 4 5 1 18446744073709551866 9 4400 4430" + signs, strings.Repeat("warrant ", 10000), strings.Repeat(" ", 14),
	} {
		if w, e := Parse(text); w != (api.Warrant{}) || e != api.ErrSyntax {
			t.Errorf("%.80q is %v, error %d", text, w, e)
		}
	}
}

func TestParseChangedTexts(t *testing.T) {
	r := rand.New(rand.NewSource(192))
	read := 0
	for range 30000 {
		w := good()
		w.First, w.Second = r.Uint64(), r.Uint64()
		text := []byte(Text(w))
		i := r.Intn(len(text))
		switch r.Intn(3) {
		case 0:
			text[i] = "0123456789 .-afgA"[r.Intn(17)]
		case 1:
			text = slices.Delete(text, i, i+1)
		case 2:
			text = slices.Insert(text, i, "0123456789 .a"[r.Intn(13)])
		}
		got, e := Parse(string(text))
		if e == api.OK && (Text(got) != string(text) || !Plain(got) || !textForm.Match(text)) || e != api.OK && (e != api.ErrSyntax || got != api.Warrant{}) {
			t.Fatalf("%q is %v, error %d", text, got, e)
		}
		if e == api.OK {
			read++
			continue
		}
		// What has the form and is refused has a number out of its range, or what is no code.
		if textForm.Match(text) && classification.Parts(strings.Fields(string(text))[3]) != nil && inRanges(strings.Fields(string(text))) {
			t.Fatalf("%q is refused", text)
		}
	}
	if read < 5000 {
		t.Errorf("only %d of the changed texts are read", read)
	}
}

// inRanges reports whether the numbers among the words of a text are in their ranges.
func inRanges(words []string) bool {
	words = slices.Delete(words, 3, 4)
	for i, c := range allNumbers() {
		var n int
		if _, err := fmt.Sscan(words[1+i], &n); err != nil || n < c.least || n > c.most {
			return false
		}
	}
	return true
}

// P19.5

// withNumber returns a warrant with a number, and a basis of its own.
func withNumber(number int) api.Warrant {
	w := good()
	w.Number, w.Verification = number, (number+99)%mostNumber+1
	return w
}

func TestAdd(t *testing.T) {
	var l []api.Warrant
	for _, number := range []int{5, 9, 2, 7, mostNumber, 1} {
		next, e := Add(l, withNumber(number))
		if e != api.OK {
			t.Fatalf("error %d", e)
		}
		l = next
	}
	var numbers []int
	for _, w := range l {
		numbers = append(numbers, w.Number)
		if w != withNumber(w.Number) {
			t.Errorf("%v", w)
		}
	}
	if !slices.Equal(numbers, []int{1, 2, 5, 7, 9, mostNumber}) {
		t.Errorf("numbers %v", numbers)
	}
	basis := func(number, office, verification, attempt int) api.Warrant {
		w := good()
		w.Number, w.Office, w.Verification, w.Attempt = number, office, verification, attempt
		return w
	}
	for _, c := range []struct {
		name string
		l    []api.Warrant
		w    api.Warrant
		want api.Errno
	}{
		{"the same number", l, withNumber(5), api.ErrDuplicate},
		{"the first number", l, basis(1, 2, 3, 4), api.ErrDuplicate},
		{"the last number", l, basis(mostNumber, 2, 3, 4), api.ErrDuplicate},
		{"the same basis", l, basis(3, 2, 107, 1), api.ErrRepeated},
		{"another office", l, basis(3, 3, 107, 1), api.OK},
		{"another verification", l, basis(3, 2, 108, 1), api.OK},
		{"another attempt", l, basis(3, 2, 107, 2), api.OK},
		{"the same number as one, the same basis as another one", l, basis(5, 2, 107, 1), api.ErrDuplicate},
		{"a list in another order", []api.Warrant{l[1], l[0]}, withNumber(3), api.ErrInvalid},
		{"a list with a number twice", []api.Warrant{l[1], l[1]}, withNumber(2), api.ErrInvalid},
		{"a list of what is not plain", []api.Warrant{{Number: math.MinInt}, {Number: -3}, {Number: math.MaxInt}}, withNumber(3), api.OK},
		{"a list of what is not plain, in another order", []api.Warrant{{Number: math.MaxInt}, {Number: math.MinInt}}, withNumber(3), api.ErrInvalid},
	} {
		kept := slices.Clone(c.l)
		got, e := Add(c.l, c.w)
		if e != c.want || e != api.OK && got != nil || e == api.OK && len(got) != len(c.l)+1 {
			t.Errorf("%s: %v, error %d, not %d", c.name, got, e, c.want)
		}
		for i := range got {
			got[i].Number = -7
		}
		if !slices.Equal(c.l, kept) {
			t.Errorf("%s: the list was changed", c.name)
		}
	}
}

func TestAddToFullLists(t *testing.T) {
	var l []api.Warrant
	for number := 1; number <= mostWarrants-1; number++ {
		l = append(l, withNumber(2*number))
	}
	full, e := Add(l, withNumber(7))
	if e != api.OK || len(full) != mostWarrants || full[3] != withNumber(7) {
		t.Errorf("the last one: error %d", e)
	}
	longer := append(slices.Clone(full), withNumber(1000))
	for _, l := range [][]api.Warrant{full, longer} {
		if got, e := Add(l, withNumber(9)); got != nil || e != api.ErrLimit {
			t.Errorf("one too many: error %d", e)
		}
		if _, e := Add(l, withNumber(7)); e != api.ErrDuplicate {
			t.Errorf("the number ahead of limits: error %d", e)
		}
		again := withNumber(9)
		again.Verification = 104
		if _, e := Add(l, again); e != api.ErrRepeated {
			t.Errorf("the basis ahead of limits: error %d", e)
		}
	}
	// A list with room behind it must not be grown in place.
	short := append(slices.Clone(l[:3]), api.Warrant{})[:3]
	Add(short, withNumber(9))
	if short[:4][3] != (api.Warrant{}) {
		t.Error("the list was grown in place")
	}
}

// The consequences, and P1

func TestWarrantsThatAreMadeAndSigned(t *testing.T) {
	o := example(t)
	var l []api.Warrant
	for order := 2; order <= 3; order++ {
		w, _ := Make(o, order, 10-order)
		w = signedOf(t, w)
		if e := Check(keysOf(mostOffices), w); e != api.OK {
			t.Errorf("order %d: error %d", order, e)
		}
		if back, e := Parse(Text(w)); back != w || e != api.OK {
			t.Errorf("order %d: %v, error %d", order, back, e)
		}
		l, _ = Add(l, w)
	}
	if len(l) != 2 || l[0].Number != 7 || l[1].Number != 8 {
		t.Errorf("the list %v", l)
	}
	again, _ := Make(o, 3, 9)
	if got, e := Add(l, again); got != nil || e != api.ErrRepeated {
		t.Errorf("the same order again: %v, error %d", got, e)
	}
}
