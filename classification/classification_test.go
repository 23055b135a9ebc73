package classification

import (
	"fmt"
	"math"
	"math/rand"
	"regexp"
	"slices"
	"strings"
	"testing"

	"treasury/api"
)

// The limits are written out here as the document has them, so that a wrong one shows.
const (
	mostCodes = 60
	mostName  = 40
	mostText  = 12000
	mostTotal = 1000000000000000
)

// codeForm is what the document calls a code.
var codeForm = regexp.MustCompile(`\A[1-9][0-9]?(\.[1-9][0-9]?){0,3}\z`)

// nameForm is what the document calls a name.
var nameForm = regexp.MustCompile(`\A[!-~]([ -~]{0,38}[!-~])?\z`)

// inOrder are some codes, in their order.
func inOrder() []string {
	return []string{
		"1", "1.1", "1.1.1", "1.1.1.1", "1.1.1.2", "1.1.1.99", "1.1.2", "1.1.10", "1.2", "1.2.1", "1.9", "1.10", "1.10.1", "1.10.9", "1.10.10", "1.99", "1.99.99.99",
		"2", "2.1", "3", "3.1.1", "3.9", "3.9.1", "3.10", "3.10.1", "3.90", "3.99", "9", "9.9", "9.9.9.9", "10", "10.1", "11", "19", "20", "30", "39", "90", "99", "99.1", "99.99", "99.99.99", "99.99.99.99",
	}
}

// noCodes are texts that are no codes, in the order of their bytes.
func noCodes() []string {
	l := []string{
		"", " ", ".", "..", "...", "1.", ".1", "1..2", "1.2.", ".1.2", "1.2.3.", "1.2.3.4.", ".1.2.3.4", "1.2.3.4.5", "1.2.3.4.5.6", "99.99.99.99.99",
		"0", "00", "01", "1.0", "1.01", "1.2.03", "1.2.3.0", "1.2.3.04", "0.1", "100", "1.100", "1.2.3.100", "101", "999", "1000", "001",
		"-1", "+1", "1.-1", "1.+1", "1.2.-3", "1-2", "1,2", "1 2", " 1", "1 ", "1 .2", "1. 2", "1.2\n", "\n1", "1\x00", "1\t", "1_0", "1_", "0x1", "1e1", "1.2e1", "a", "1.a", "1a", "a1", "x.1", "1.x.2", "all", "none", "3.9 schools",
		"\u0661", "1.\u0662", "\uff11", "1\u00b72", "1\u2024 2", "\xff", "1\xff", "1.\xff", "\xff\xfe", "\u0660\u0661",
		"18446744073709551617", "1.18446744073709551617", "4294967297", "257", "-18446744073709551615",
		"1111111111", "1.1.1.1.1.1.1.1.1.1", "..........",
	}
	slices.Sort(l)
	return l
}

// longTexts are long texts that are no codes.
func longTexts() []string {
	return []string{strings.Repeat("1", 1000), strings.Repeat("1.", 1000), strings.Repeat(".", 1000), strings.Repeat("0", 100000), strings.Repeat("1.1", 100000)}
}

// someTexts are codes and texts that are none.
func someTexts() []string { return append(inOrder(), noCodes()...) }

// numbersOf are the numbers of a code, read in a simple way.
func numbersOf(code string) []int {
	if !codeForm.MatchString(code) {
		return nil
	}
	l := []int{0}
	for _, b := range []byte(code) {
		if b == '.' {
			l = append(l, 0)
		} else {
			l[len(l)-1] = 10*l[len(l)-1] + int(b-'0')
		}
	}
	return l
}

// parentOf is the code without the last number, "" of a code of one number.
func parentOf(code string) string {
	l := strings.Split(code, ".")
	return strings.Join(l[:len(l)-1], ".")
}

// isUnder goes by the texts, not by the numbers.
func isUnder(code, top string) bool {
	return codeForm.MatchString(code) && codeForm.MatchString(top) && strings.HasPrefix(code+".", top+".")
}

// tree is a list of headings with some codes, and with names that differ.
func tree(codes ...string) []api.Heading {
	var l []api.Heading
	for i, code := range codes {
		l = append(l, api.Heading{Code: code, Name: fmt.Sprintf("name %d", i)})
	}
	return l
}

// example is the classification of the document's example.
func example() []api.Heading { return tree("1", "3", "3.9", "3.10") }

// manyCodes are n codes in their order, of one and two numbers.
func manyCodes(n int) []string {
	var l []string
	for i := 1; len(l) < n; i++ {
		l = append(l, fmt.Sprint(i), fmt.Sprintf("%d.%d", i, i), fmt.Sprintf("%d.%d", i, i+1))
	}
	return l[:n]
}

func expect[T comparable](t *testing.T, got, want T, call string, arguments ...any) {
	t.Helper()
	if got != want {
		t.Errorf("%s of %.300q: %v, not %v", call, fmt.Sprint(arguments...), got, want)
	}
}

func expectList[T comparable](t *testing.T, got, want []T, call string, arguments ...any) {
	t.Helper()
	if !slices.Equal(got, want) {
		t.Errorf("%s of %.300q: %v, not %v", call, fmt.Sprint(arguments...), got, want)
	}
}

// P3.1

func TestParts(t *testing.T) {
	for code, want := range map[string][]int{
		"1":           {1},
		"9":           {9},
		"10":          {10},
		"99":          {99},
		"3.9":         {3, 9},
		"3.10":        {3, 10},
		"1.2.3":       {1, 2, 3},
		"1.2.3.4":     {1, 2, 3, 4},
		"99.99.99.99": {99, 99, 99, 99},
		"40.30.20.10": {40, 30, 20, 10},
	} {
		expectList(t, Parts(code), want, "Parts", code)
	}
	for _, text := range append(noCodes(), longTexts()...) {
		if got := Parts(text); len(got) != 0 {
			t.Errorf("Parts of %.300q: %v", text, got)
		}
	}
}

func TestPartsOfAllNumbers(t *testing.T) {
	for n := range 1000 {
		for _, form := range []string{"%d", "%02d", "%03d", "7.%d", "%d.7", "7.%02d", "7.8.9.%d", "7.8.9.%02d", "%d.9.8.7", "7.%d.9.8", "7.8.9.%d.1"} {
			text := fmt.Sprintf(form, n)
			expectList(t, Parts(text), numbersOf(text), "Parts", text)
		}
	}
}

func TestPartsOfShortTexts(t *testing.T) {
	signs := []string{"0", "1", "9", ".", "-", "+", " ", "a", "_"}
	texts := []string{""}
	for range 5 {
		var longer []string
		for _, text := range texts {
			for _, sign := range signs {
				longer = append(longer, text+sign)
			}
		}
		for _, text := range longer {
			expectList(t, Parts(text), numbersOf(text), "Parts", text)
		}
		texts = longer
	}
}

func TestPartsOfRandomTexts(t *testing.T) {
	r := rand.New(rand.NewSource(1))
	signs := []string{"1", "2", "10", "99", "0", "100", ".", ".", ".", "5"}
	for range 200000 {
		text := ""
		for range r.Intn(12) {
			text += signs[r.Intn(len(signs))]
		}
		expectList(t, Parts(text), numbersOf(text), "Parts", text)
	}
}

func TestPartsAreNewMemory(t *testing.T) {
	first := Parts("1.2.3")
	first[0] = 9
	expectList(t, Parts("1.2.3"), []int{1, 2, 3}, "Parts", "1.2.3")
}

func TestCode(t *testing.T) {
	for _, c := range []struct {
		parts []int
		want  string
	}{
		{[]int{1}, "1"},
		{[]int{9}, "9"},
		{[]int{10}, "10"},
		{[]int{99}, "99"},
		{[]int{3, 9}, "3.9"},
		{[]int{3, 10}, "3.10"},
		{[]int{1, 2, 3}, "1.2.3"},
		{[]int{1, 1, 1, 1}, "1.1.1.1"},
		{[]int{99, 99, 99, 99}, "99.99.99.99"},
		{nil, ""},
		{[]int{}, ""},
		{[]int{0}, ""},
		{[]int{100}, ""},
		{[]int{-1}, ""},
		{[]int{0, 1}, ""},
		{[]int{1, 0}, ""},
		{[]int{1, 100}, ""},
		{[]int{1, 2, 3, 0}, ""},
		{[]int{1, 2, 3, 100}, ""},
		{[]int{1, 2, -3, 4}, ""},
		{[]int{1, 2, 3, 4, 5}, ""},
		{[]int{1, 2, 3, 4, 0}, ""},
		{[]int{math.MaxInt}, ""},
		{[]int{math.MinInt}, ""},
		{[]int{1, 1 << 32}, ""},
		{[]int{1<<32 + 1}, ""},
		{[]int{257}, ""},
		{make([]int, 1000), ""},
		{slices.Repeat([]int{1}, 100000), ""},
	} {
		given := slices.Clone(c.parts)
		expect(t, Code(c.parts), c.want, "Code", c.parts)
		expectList(t, c.parts, given, "the argument of Code")
	}
}

func TestCodesComeBackFromTheirParts(t *testing.T) {
	for _, code := range inOrder() {
		expect(t, Code(Parts(code)), code, "Code of Parts", code)
	}
	for _, text := range noCodes() {
		expect(t, Code(Parts(text)), "", "Code of Parts", text)
	}
	r := rand.New(rand.NewSource(2))
	for range 20000 {
		parts := make([]int, r.Intn(6))
		good := len(parts) >= 1 && len(parts) <= 4
		for i := range parts {
			parts[i] = r.Intn(103) - 1
			good = good && parts[i] >= 1 && parts[i] <= 99
		}
		code := Code(parts)
		expect(t, code != "", good, "Code", parts)
		if good {
			expectList(t, Parts(code), parts, "Parts of Code", parts)
		}
	}
}

func TestCompare(t *testing.T) {
	for _, c := range []struct {
		a, b string
		want int
	}{
		{"3.9", "3.10", -1}, // the example: 9 is before 10 as a number, not as a text
		{"3.10", "3.9", 1},
		{"9", "10", -1},
		{"3", "3", 0},
		{"3", "3.9", -1},
		{"3.10", "3.10", 0},
		{"3.99", "4", -1},
		{"4", "3.99.99.99", 1},
		{"1.1.1.2", "1.1.2", -1},
		{"3", "20", -1},
		// Texts that are no codes come before codes, whatever their bytes are.
		{"x", "1", -1},
		{"1", "x", 1},
		{"", "1", -1},
		{"99.99.99.99", "", 1},
		{"01", "1", -1},
		{"100", "1", -1},
		{"1", "100", 1},
		{"1.2.3.4.5", "1", -1},
		{"\xff", "1", -1},
		// They are compared byte by byte with each other.
		{"", "", 0},
		{"", "x", -1},
		{"x", "x", 0},
		{"x", "y", -1},
		{"3.09", "3.010", 1},
		{"100", "20.0", -1},
		{"a.9", "a.10", 1},
		{"a", "a.1", -1},
		{"a\x00", "a", 1},
		{"a\xff", "a\x01", 1},
		{"Z", "a", -1},
	} {
		expect(t, Compare(c.a, c.b), c.want, "Compare", c.a, "|", c.b)
		expect(t, Compare(c.b, c.a), -c.want, "Compare", c.b, "|", c.a)
	}
}

func TestCompareGoesByTheOrder(t *testing.T) {
	l := append(noCodes(), inOrder()...)
	for i, a := range l {
		for j, b := range l {
			want := 0
			if i < j {
				want = -1
			} else if i > j {
				want = 1
			}
			expect(t, Compare(a, b), want, "Compare", a, "|", b)
		}
	}
}

func TestUnder(t *testing.T) {
	for _, c := range []struct {
		code, top string
		want      bool
	}{
		{"3.9", "3", true}, // the examples
		{"3.10", "3", true},
		{"3", "3", true},
		{"3.9", "3.9", true},
		{"3.9.1.1", "3", true},
		{"3.9.1.1", "3.9", true},
		{"3.9.1.1", "3.9.1", true},
		{"3.9.1.1", "3.9.1.1", true},
		{"3", "3.9", false},
		{"3.9", "3.9.1.1", false},
		// The text of one begins with that of the other one, but not its numbers.
		{"30", "3", false},
		{"3.90", "3.9", false},
		{"3.10", "3.1", false},
		{"33.1", "3", false},
		{"13", "3", false},
		{"3.9", "4", false},
		{"3.9", "3.8", false},
		{"9.3", "3", false},
		{"1.3", "3", false},
		// One of the texts is no code.
		{"3", "", false},
		{"", "3", false},
		{"", "", false},
		{"x", "x", false},
		{"3.0", "3", false},
		{"3.", "3", false},
		{"3.9", "3.", false},
		{"3.100", "3", false},
		{"3.1.1.1.1", "3", false},
		{"3.1.1.1.1", "3.1.1.1.1", false},
		{"3", "03", false},
		{"03", "3", false},
		{"x.1", "x", false},
	} {
		expect(t, Under(c.code, c.top), c.want, "Under", c.code, "|", c.top)
	}
}

func TestUnderGoesByTheTexts(t *testing.T) {
	for _, code := range someTexts() {
		for _, top := range someTexts() {
			expect(t, Under(code, top), isUnder(code, top), "Under", code, "|", top)
		}
	}
}

func TestLongTexts(t *testing.T) {
	for _, text := range longTexts() {
		expect(t, Compare(text, "1"), -1, "Compare", text, "|", "1")
		expect(t, Compare("1", text), 1, "Compare", "1", "|", text)
		expect(t, Compare(text, text), 0, "Compare", text, "|", "itself")
		expect(t, Compare(text, text+"\x00"), -1, "Compare", text, "|", "a longer one")
		expect(t, Under(text, text), false, "Under", text, "|", "itself")
		expect(t, Under(text, "1"), false, "Under", text, "|", "1")
		expect(t, Under("1", text), false, "Under", "1", "|", text)
		expect(t, Valid(tree(text)), api.ErrCode, "Valid", text)
		expectList(t, Leaves(tree(text, "1"), ""), []string{"1"}, "Leaves", text)
		expectList(t, Children(tree(text, "1"), text), nil, "Children", text)
	}
}

func TestUnderIsAnOrder(t *testing.T) {
	l := inOrder()
	for _, a := range l {
		expect(t, Under(a, a), true, "Under", a, "|", a)
		for _, b := range l {
			if Under(a, b) && Under(b, a) && a != b {
				t.Errorf("%s and %s lie under each other", a, b)
			}
			for _, c := range l {
				if Under(a, b) && Under(b, c) && !Under(a, c) {
					t.Errorf("%s lies under %s, this under %s", a, b, c)
				}
			}
		}
	}
}

// P3.2

// named is a list of one heading, with a name.
func named(name string) []api.Heading { return []api.Heading{{Code: "1", Name: name}} }

func TestValid(t *testing.T) {
	for _, c := range []struct {
		what string
		list []api.Heading
		want api.Errno
	}{
		{"nil", nil, api.OK},
		{"empty", []api.Heading{}, api.OK},
		{"the example", example(), api.OK},
		{"four numbers", tree("99", "99.99", "99.99.99", "99.99.99.99"), api.OK},
		{"gaps", tree("2", "2.5", "7", "7.9", "7.9.3", "7.10", "50"), api.OK},
		{"most codes", tree(manyCodes(mostCodes)...), api.OK},
		{"too many codes", tree(manyCodes(mostCodes + 1)...), api.ErrLimit},
		{"no code", tree("x"), api.ErrCode},
		{"empty code", tree(""), api.ErrCode},
		{"zero in front", tree("1", "1.01"), api.ErrCode},
		{"five numbers", tree("1", "1.1", "1.1.1", "1.1.1.1", "1.1.1.1.1"), api.ErrCode},
		{"last is no code", tree("1", "2", "100"), api.ErrCode},
		{"twice", tree("1", "1"), api.ErrOrder},
		{"descending", tree("2", "1"), api.ErrOrder},
		{"in the order of texts", tree("3", "3.10", "3.9"), api.ErrOrder},
		{"parent behind", tree("1.1", "1"), api.ErrOrder},
		{"parent behind others", tree("1", "2.1", "2"), api.ErrOrder},
		{"parent of parent behind", tree("1.1.1", "1.1", "1"), api.ErrOrder},
		{"no parent", tree("1.1"), api.ErrUnknown},
		{"no parent, but one of that", tree("1", "1.1.1"), api.ErrUnknown},
		{"another parent", tree("1", "2.1"), api.ErrUnknown},
		{"parent with a like text", tree("1", "10.1"), api.ErrUnknown},
		{"no parent at the end", tree("1", "1.1", "1.1.1", "1.2.1"), api.ErrUnknown},
	} {
		given := slices.Clone(c.list)
		expect(t, Valid(c.list), c.want, "Valid", c.what)
		expectList(t, c.list, given, "the argument of Valid", c.what)
	}
}

func TestErrorsOfValidInTheirOrder(t *testing.T) {
	bad := func(code string) api.Heading { return api.Heading{Code: code, Name: " "} }
	good := func(code string) api.Heading { return api.Heading{Code: code, Name: "a name"} }
	for _, c := range []struct {
		what string
		list []api.Heading
		want api.Errno
	}{
		{"limit before all", slices.Repeat([]api.Heading{{}}, mostCodes+1), api.ErrLimit},
		{"limit before order", slices.Repeat(tree("1"), mostCodes+1), api.ErrLimit},
		{"code before name", []api.Heading{{Code: "x", Name: ""}}, api.ErrCode},
		{"code before order", tree("2", "1.0"), api.ErrCode},
		{"code before parent", tree("1", "2.0"), api.ErrCode},
		{"name before order", []api.Heading{good("2"), bad("1")}, api.ErrSyntax},
		{"name before parent", []api.Heading{bad("1.1")}, api.ErrSyntax},
		{"order before parent", tree("3", "2.1"), api.ErrOrder},
		// The errors of a heading come before all those of the next one.
		{"name, then code", []api.Heading{bad("1"), good("x")}, api.ErrSyntax},
		{"order, then code", tree("2", "1", "x"), api.ErrOrder},
		{"order, then name", []api.Heading{good("2"), good("1"), bad("3")}, api.ErrOrder},
		{"parent, then code", tree("1.1", "x"), api.ErrUnknown},
		{"parent, then name", []api.Heading{good("1.1"), bad("2")}, api.ErrUnknown},
		{"parent, then order", tree("1", "3.1", "2"), api.ErrUnknown},
		// A parent that stands behind is in the list, even if it is not right itself.
		{"parent behind, then code", tree("1.1", "x", "1"), api.ErrCode},
		{"parent behind, with a bad name", []api.Heading{good("1.1"), bad("1")}, api.ErrSyntax},
	} {
		expect(t, Valid(c.list), c.want, "Valid", c.what)
	}
}

func TestNames(t *testing.T) {
	for _, name := range []string{"a", "1", "!", "~", "a b", "a  b", "3.9", "#", "a name, with \"all\" of {it}", strings.Repeat("n", mostName), strings.Repeat("n ", 19) + "nn", "?"} {
		expect(t, Valid(named(name)), api.OK, "Valid", name)
	}
	for _, name := range []string{"", " ", "  ", " a", "a ", " a ", "\n", "a\n", "a\nb", "\na", "a\tb", "\x00", "a\x7f", "a\x1fb", "\x80", "a\xff", "é", "a é", "\u2713", "\ufffd", "a\u00a0b", "\U0001f600", strings.Repeat("n", mostName+1), strings.Repeat("é", mostName/2), strings.Repeat("é", mostName), strings.Repeat("n", 100000)} {
		expect(t, Valid(named(name)), api.ErrSyntax, "Valid", name)
	}
}

func TestNamesOfAllBytes(t *testing.T) {
	for b := range 256 {
		want := api.OK
		if b < 32 || b > 126 {
			want = api.ErrSyntax
		}
		expect(t, Valid(named("a"+string([]byte{byte(b)})+"z")), want, "Valid with the byte", b)
		if b == 32 {
			want = api.ErrSyntax
		}
		for _, name := range []string{string([]byte{byte(b)}), "a" + string([]byte{byte(b)}), string([]byte{byte(b)}) + "z"} {
			expect(t, Valid(named(name)), want, "Valid with the byte", b)
		}
	}
}

// faultOf goes by the document's words: it returns the error of a list, and the number of its heading.
func faultOf(l []api.Heading) (int, api.Errno) {
	if len(l) > mostCodes {
		return 0, api.ErrLimit
	}
	all := map[string]bool{}
	for _, h := range l {
		all[h.Code] = true
	}
	for i, h := range l {
		if !codeForm.MatchString(h.Code) {
			return i + 1, api.ErrCode
		}
		if !nameForm.MatchString(h.Name) {
			return i + 1, api.ErrSyntax
		}
		if i > 0 && slices.Compare(numbersOf(l[i-1].Code), numbersOf(h.Code)) >= 0 {
			return i + 1, api.ErrOrder
		}
		if strings.Contains(h.Code, ".") && !all[parentOf(h.Code)] {
			return i + 1, api.ErrUnknown
		}
	}
	return 0, api.OK
}

// randomList makes a list that is valid, or nearly so.
func randomList(r *rand.Rand) []api.Heading {
	bad := []string{"", "x", "0", "01", "100", "1.", ".1", "1.0", "1.01", "1..2", "1.1.1.1.1", "-1", "1 2", "\u0661", "\xff"}
	codes := []string{"1", "1.1", "1.1.1", "1.1.1.1", "1.1.2", "1.2", "1.10", "1.10.3", "2", "2.2", "2.10", "10", "10.1", "10.1.1"}
	var l []api.Heading
	for _, code := range codes {
		if r.Intn(5) > 0 {
			l = append(l, api.Heading{Code: code, Name: "the name of " + code})
		}
	}
	for range r.Intn(3) {
		i := r.Intn(len(l) + 1)
		switch r.Intn(6) {
		case 0:
			l = slices.Insert(l, i, api.Heading{Code: codes[r.Intn(len(codes))], Name: "put in"})
		case 1:
			l = slices.Insert(l, i, api.Heading{Code: bad[r.Intn(len(bad))], Name: "put in"})
		case 2:
			l = slices.Insert(l, i, api.Heading{Code: codes[r.Intn(len(codes))], Name: []string{"", " a", "a ", "\n", "é"}[r.Intn(5)]})
		default:
			if i < len(l) {
				l = slices.Delete(l, i, i+1)
			}
		}
	}
	return l
}

func TestValidOfRandomLists(t *testing.T) {
	r := rand.New(rand.NewSource(3))
	seen := map[api.Errno]int{}
	for range 20000 {
		l := randomList(r)
		_, want := faultOf(l)
		seen[want]++
		expect(t, Valid(l), want, "Valid", l)
	}
	for _, e := range []api.Errno{api.OK, api.ErrCode, api.ErrSyntax, api.ErrOrder, api.ErrUnknown} {
		if seen[e] < 100 {
			t.Errorf("only %d lists have the error %d", seen[e], e)
		}
	}
}

func TestHas(t *testing.T) {
	mixed := append(tree("3.9", "x", "1", "", "1.01"), api.Heading{Code: "7"})
	for _, c := range []struct {
		list []api.Heading
		code string
		want bool
	}{
		{example(), "1", true},
		{example(), "3", true},
		{example(), "3.9", true},
		{example(), "3.10", true},
		{example(), "3.1", false},
		{example(), "2", false},
		{example(), "10", false},
		{example(), "3.9.1", false},
		{example(), "name 0", false},
		{example(), "", false},
		{example(), "03", false},
		{nil, "1", false},
		{nil, "", false},
		// The list need not be valid.
		{mixed, "3.9", true},
		{mixed, "1", true},
		{mixed, "7", true},
		{mixed, "3", false},
		// What is no code is no code of a heading.
		{mixed, "x", false},
		{mixed, "", false},
		{mixed, "1.01", false},
	} {
		given := slices.Clone(c.list)
		expect(t, Has(c.list, c.code), c.want, "Has", c.list, c.code)
		expectList(t, c.list, given, "the argument of Has", c.code)
	}
	long := tree(slices.Repeat([]string{"1", "1.1"}, 1000)...)
	expect(t, Has(append(long, tree("2")...), "2"), true, "Has", "a long list")
}

// P3.3

func TestLeaves(t *testing.T) {
	deep := tree("1", "1.1", "1.1.1", "1.1.1.1", "1.1.1.2", "1.1.2", "1.2", "2", "3", "3.1", "10", "10.1")
	for _, c := range []struct {
		what string
		list []api.Heading
		top  string
		want []string
	}{
		{"the example", example(), "", []string{"1", "3.9", "3.10"}},
		{"under 3", example(), "3", []string{"3.9", "3.10"}},
		{"under a leaf", example(), "3.9", []string{"3.9"}},
		{"under a leaf of one number", example(), "1", []string{"1"}},
		{"under what is not there", example(), "2", nil},
		{"under a like text", example(), "3.1", nil},
		{"under no code", example(), "x", nil},
		{"under no code", example(), "03", nil},
		{"under no code", example(), "3.", nil},
		{"under what a leaf is the parent of", example(), "3.9.1", nil},
		{"none", nil, "", nil},
		{"none", nil, "1", nil},
		{"deep", deep, "", []string{"1.1.1.1", "1.1.1.2", "1.1.2", "1.2", "2", "3.1", "10.1"}},
		{"deep", deep, "1", []string{"1.1.1.1", "1.1.1.2", "1.1.2", "1.2"}},
		{"deep", deep, "1.1", []string{"1.1.1.1", "1.1.1.2", "1.1.2"}},
		{"deep", deep, "1.1.1", []string{"1.1.1.1", "1.1.1.2"}},
		{"deep", deep, "10", []string{"10.1"}},
		// Lists that are not valid: what counts is their headings with codes, in the order of the list.
		{"not in order", tree("3.10", "3", "2", "3.9"), "", []string{"3.10", "2", "3.9"}},
		{"parent behind", tree("1.1", "1"), "", []string{"1.1"}},
		{"no parent", tree("1", "3.9.1", "1.1.1"), "", []string{"1", "3.9.1", "1.1.1"}},
		{"top is not in the list", tree("3.9", "3.10.1"), "3", []string{"3.9", "3.10.1"}},
		{"no codes", tree("x", "", "1.01", "1.1.1.1.1"), "", nil},
		{"no child is a code", tree("1", "1.x", "1.01", "1.0", "1."), "", []string{"1"}},
		{"five numbers", tree("1.1.1.1", "1.1.1.1.1"), "", []string{"1.1.1.1"}},
		{"codes between others", tree("x", "2", "", "2.1", "02", "3"), "", []string{"2.1", "3"}},
		{"bad names", []api.Heading{{Code: "1"}, {Code: "1.1", Name: "\n"}, {Code: "2", Name: " "}}, "", []string{"1.1", "2"}},
		{"twice", tree("1", "2", "1"), "", []string{"1", "2", "1"}},
		{"parents twice", tree("1", "1.1", "1", "1.2"), "", []string{"1.1", "1.2"}},
		{"too many", tree(manyCodes(90)...), "30", []string{"30.30", "30.31"}},
	} {
		given := slices.Clone(c.list)
		expectList(t, Leaves(c.list, c.top), c.want, "Leaves", c.what, c.top)
		expectList(t, c.list, given, "the argument of Leaves", c.what)
	}
}

func TestChildren(t *testing.T) {
	deep := tree("1", "1.1", "1.1.1", "1.1.1.1", "1.1.2", "1.2", "2", "10", "10.1", "11")
	for _, c := range []struct {
		what string
		list []api.Heading
		code string
		want []string
	}{
		{"the example", example(), "", []string{"1", "3"}},
		{"the example", example(), "3", []string{"3.9", "3.10"}},
		{"the example", example(), "1", nil},
		{"the example", example(), "3.9", nil},
		{"not there", example(), "2", nil},
		{"no code", example(), "x", nil},
		{"no code", example(), "03", nil},
		{"no code", example(), "3.", nil},
		{"no code", example(), ".", nil},
		{"none", nil, "", nil},
		{"none", nil, "1", nil},
		{"deep", deep, "", []string{"1", "2", "10", "11"}},
		{"deep", deep, "1", []string{"1.1", "1.2"}},
		{"deep", deep, "1.1", []string{"1.1.1", "1.1.2"}},
		{"deep", deep, "1.1.1", []string{"1.1.1.1"}},
		{"deep", deep, "1.1.1.1", nil},
		// Lists that are not valid: what counts is their headings with codes, in the order of the list.
		{"not in order", tree("3.10", "3", "2", "3.9"), "3", []string{"3.10", "3.9"}},
		{"not in order", tree("3.10", "3", "2", "3.9"), "", []string{"3", "2"}},
		{"the code is not in the list", tree("3.9", "3.10.1"), "3", []string{"3.9"}},
		{"the code is not in the list", tree("3.9", "3.10.1"), "3.10", []string{"3.10.1"}},
		{"no codes", tree("x", "", "1.01", "1.", "1.x", "01", "0"), "", nil},
		{"no codes", tree("x", "", "1.01", "1.", "1.x", "01", "0", "x.1"), "1", nil},
		{"the parent is no code", tree("x", "x.1", "01.1", ".1"), "x", nil},
		{"the parent is no code", tree("x", "x.1", "01.1", ".1"), "01", nil},
		{"the parent is no code", tree("x", "x.1", "01.1", ".1"), "", nil},
		{"five numbers", tree("1.1.1.1", "1.1.1.1.1"), "1.1.1.1", nil},
		{"bad names", []api.Heading{{Code: "1"}, {Code: "1.1", Name: "\n"}, {Code: "2", Name: " "}}, "", []string{"1", "2"}},
		{"twice", tree("1.1", "1", "1.1"), "1", []string{"1.1", "1.1"}},
		{"too many", tree(manyCodes(90)...), "30", []string{"30.30", "30.31"}},
	} {
		given := slices.Clone(c.list)
		expectList(t, Children(c.list, c.code), c.want, "Children", c.what, c.code)
		expectList(t, c.list, given, "the argument of Children", c.what)
	}
}

func TestLeavesAndChildrenOfRandomLists(t *testing.T) {
	r := rand.New(rand.NewSource(4))
	tops := []string{"", "1", "1.1", "1.1.1", "1.10", "2", "10", "10.1", "3", "x", "01"}
	for range 5000 {
		l := randomList(r)
		top := tops[r.Intn(len(tops))]
		var leaves, children []string
		for _, h := range l {
			if !codeForm.MatchString(h.Code) {
				continue
			}
			isParent := slices.ContainsFunc(l, func(other api.Heading) bool {
				return codeForm.MatchString(other.Code) && parentOf(other.Code) == h.Code
			})
			if !isParent && (top == "" || isUnder(h.Code, top)) {
				leaves = append(leaves, h.Code)
			}
			if parentOf(h.Code) == top {
				children = append(children, h.Code)
			}
		}
		expectList(t, Leaves(l, top), leaves, "Leaves", l, top)
		expectList(t, Children(l, top), children, "Children", l, top)
	}
}

func TestLeavesOfAClassification(t *testing.T) {
	// The leaves under a code are those under its children, or the code itself if it has none.
	r := rand.New(rand.NewSource(5))
	for range 2000 {
		l := randomList(r)
		if Valid(l) != api.OK {
			continue
		}
		for _, h := range append(tree(""), l...) {
			children := Children(l, h.Code)
			var want []string
			for _, child := range children {
				want = append(want, Leaves(l, child)...)
			}
			if len(children) == 0 && h.Code != "" {
				want = []string{h.Code}
			}
			expectList(t, Leaves(l, h.Code), want, "Leaves", l, h.Code)
		}
	}
}

func TestListsAreNewMemory(t *testing.T) {
	l := example()
	first, second := Leaves(l, ""), Children(l, "")
	clear(first)
	clear(second)
	expectList(t, l, example(), "the list behind changed results")
	expectList(t, Leaves(l, ""), []string{"1", "3.9", "3.10"}, "Leaves", "again")
	expectList(t, Children(l, ""), []string{"1", "3"}, "Children", "again")
}

// P3.4

func line(code string, year, amount int) api.Line {
	return api.Line{Code: code, Year: year, Amount: amount}
}

func TestSum(t *testing.T) {
	lines := []api.Line{line("1", 12, 100), line("3.9", 12, 20), line("3.9", 13, 3), line("3.10", 12, 4000), line("3.10.1", 13, 50000), line("3", 12, 600000), line("30", 12, 7000000), line("x", 12, 80000000), line("", 14, 900000000), line("3.9", -1, 1000000000)}
	for _, c := range []struct {
		top  string
		year int
		want int
	}{
		{"", -1, 1987654123},
		{"", 12, 87604120},
		{"", 13, 50003},
		{"", 14, 900000000},
		{"", 15, 0},
		{"", 0, 0},
		{"", -2, 0},
		{"3", 12, 604020},
		{"3", 13, 50003},
		{"3", -1, 1000654023},
		{"3", 14, 0},
		{"3.9", 12, 20},
		{"3.9", -1, 1000000023},
		{"3.10", 12, 4000},
		{"3.10", -1, 54000},
		{"3.1", -1, 0},
		{"1", 12, 100},
		{"30", -1, 7000000},
		{"2", -1, 0},
		{"x", -1, 0},
		{"x", 12, 0},
		{"03", -1, 0},
		{".", -1, 0},
		{"", math.MinInt, 0},
		{"", math.MaxInt, 0},
	} {
		given := slices.Clone(lines)
		got, e := Sum(lines, c.top, c.year)
		expect(t, got, c.want, "Sum", c.top, c.year)
		expect(t, e, api.OK, "the error of Sum", c.top, c.year)
		expectList(t, lines, given, "the argument of Sum")
	}
	for _, none := range [][]api.Line{nil, {}} {
		got, e := Sum(none, "", -1)
		expect(t, got, 0, "Sum", "nothing")
		expect(t, e, api.OK, "the error of Sum", "nothing")
	}
}

func TestErrorsOfSum(t *testing.T) {
	for _, c := range []struct {
		what    string
		amounts []int
		want    int
		e       api.Errno
	}{
		{"one", []int{5}, 5, api.OK},
		{"negative", []int{-5, 3}, -2, api.OK},
		{"most", []int{mostTotal}, mostTotal, api.OK},
		{"least", []int{-mostTotal}, -mostTotal, api.OK},
		{"most in two", []int{mostTotal - 1, 1}, mostTotal, api.OK},
		{"back to nothing", []int{mostTotal, -mostTotal, -mostTotal, mostTotal}, 0, api.OK},
		{"no total", []int{mostTotal + 1}, 0, api.ErrRange},
		{"no total", []int{-mostTotal - 1}, 0, api.ErrRange},
		{"no total behind", []int{1, 2, -mostTotal - 1}, 0, api.ErrRange},
		{"too much", []int{mostTotal, 1}, 0, api.ErrRange},
		{"too little", []int{-mostTotal, -1}, 0, api.ErrRange},
		// The sum would be a total in another order.
		{"too much on the way", []int{mostTotal, 1, -1}, 0, api.ErrRange},
		{"too little on the way", []int{-mostTotal, -1, 1}, 0, api.ErrRange},
		{"in order", []int{mostTotal, -1, 1}, mostTotal, api.OK},
		{"no total, but a sum", []int{mostTotal + 1, -2}, 0, api.ErrRange},
		{"greatest", []int{math.MaxInt}, 0, api.ErrRange},
		{"least", []int{math.MinInt}, 0, api.ErrRange},
		{"wrapping", []int{math.MaxInt, math.MaxInt, 2}, 0, api.ErrRange},
		{"wrapping", []int{math.MinInt, math.MinInt}, 0, api.ErrRange},
	} {
		var lines []api.Line
		for _, amount := range c.amounts {
			lines = append(lines, line("3.9", 12, amount))
		}
		for _, top := range []string{"", "3", "3.9"} {
			for _, year := range []int{12, -1} {
				got, e := Sum(lines, top, year)
				expect(t, got, c.want, "Sum", c.what, c.amounts, top, year)
				expect(t, e, c.e, "the error of Sum", c.what, c.amounts, top, year)
			}
		}
		// Lines that are not asked for make no error.
		for _, other := range []api.Line{line("4", 12, 0), line("3.9", 13, 0)} {
			got, e := Sum(append(lines, other), other.Code, other.Year)
			expect(t, got, 0, "Sum", c.what, "of others")
			expect(t, e, api.OK, "the error of Sum", c.what, "of others")
		}
	}
}

func TestSumIsThatOverChildren(t *testing.T) {
	r := rand.New(rand.NewSource(6))
	for range 1000 {
		l := randomList(r)
		if Valid(l) != api.OK {
			continue
		}
		var lines []api.Line
		for range r.Intn(30) {
			lines = append(lines, line(l[r.Intn(len(l))].Code, r.Intn(3), r.Intn(1000)))
		}
		for _, h := range l {
			for _, year := range []int{-1, 0, 1, 2} {
				want := 0
				for _, child := range Children(l, h.Code) {
					part, _ := Sum(lines, child, year)
					want += part
				}
				for _, one := range lines {
					if one.Code == h.Code && (year == -1 || year == one.Year) {
						want += one.Amount
					}
				}
				got, e := Sum(lines, h.Code, year)
				expect(t, got, want, "Sum", lines, h.Code, year)
				expect(t, e, api.OK, "the error of Sum", lines, h.Code, year)
			}
		}
	}
}

// P3.5

func TestText(t *testing.T) {
	for _, c := range []struct {
		what string
		list []api.Heading
		want string
	}{
		{"nil", nil, ""},
		{"empty", []api.Heading{}, ""},
		{"one", named("schools"), "1 schools\n"},
		{"the example", example(), "1 name 0\n3 name 1\n3.9 name 2\n3.10 name 3\n"},
		{"blanks in a name", named("a  b c"), "1 a  b c\n"},
		{"name of a question mark", named("?"), "1 ?\n"},
		{"four numbers", tree("9", "9.8", "9.8.77", "9.8.77.66"), "9 name 0\n9.8 name 1\n9.8.77 name 2\n9.8.77.66 name 3\n"},
		{"no code", tree("1", "x"), "?"},
		{"no name", named(""), "?"},
		{"name with a line feed", named("a\nb"), "?"},
		{"not in order", tree("2", "1"), "?"},
		{"no parent", tree("1.1"), "?"},
		{"too many", tree(manyCodes(mostCodes + 1)...), "?"},
	} {
		given := slices.Clone(c.list)
		expect(t, Text(c.list), c.want, "Text", c.what)
		expectList(t, c.list, given, "the argument of Text", c.what)
	}
}

// expectParse compares what Parse returns with what is wanted.
func expectParse(t *testing.T, text string, want []api.Heading, number int, e api.Errno) {
	t.Helper()
	got, n, err := Parse(text)
	expectList(t, got, want, "Parse", text)
	expect(t, n, number, "the number of Parse", text)
	expect(t, err, e, "the error of Parse", text)
}

func TestParse(t *testing.T) {
	both := []api.Heading{{Code: "1", Name: "a"}, {Code: "1.2", Name: "b c"}}
	expectParse(t, "", nil, 0, api.OK)
	expectParse(t, "1 a\n1.2 b c\n", both, 0, api.OK)
	expectParse(t, "1 a\n1.2 b c", both, 0, api.OK)
	expectParse(t, "1 a", both[:1], 0, api.OK)
	expectParse(t, "1 2 3 4", named("2 3 4"), 0, api.OK)
	expectParse(t, "1 a  b", named("a  b"), 0, api.OK)
	expectParse(t, "1 name 0\n3 name 1\n3.9 name 2\n3.10 name 3\n", example(), 0, api.OK)
}

func TestErrorsOfParse(t *testing.T) {
	for _, c := range []struct {
		text   string
		number int
		e      api.Errno
	}{
		// A line has no blank.
		{"x", 1, api.ErrSyntax},
		{"1", 1, api.ErrSyntax},
		{"\n", 1, api.ErrSyntax},
		{"\n\n", 1, api.ErrSyntax},
		{"1\n", 1, api.ErrSyntax},
		{"1 a\n\n", 2, api.ErrSyntax},
		{"1 a\n\n2 b\n", 2, api.ErrSyntax},
		{"\n1 a\n", 1, api.ErrSyntax},
		{"1 a\n2\n3\n", 2, api.ErrSyntax},
		{"1 a\n2 b\n3", 3, api.ErrSyntax},
		{"1\ta\n", 1, api.ErrSyntax},
		{"1 a\n2\u00a0b", 2, api.ErrSyntax},
		{"\r\n", 1, api.ErrSyntax},
		{"\x00", 1, api.ErrSyntax},
		// It comes before all errors of headings, and before too many of them.
		{"x y\n1", 2, api.ErrSyntax},
		{"2 a\n1 b\n3.1 c\n4\n", 4, api.ErrSyntax},
		{strings.Repeat("1 a\n", 100) + "1", 101, api.ErrSyntax},
		// The errors of headings.
		{" ", 1, api.ErrCode},
		{" a", 1, api.ErrCode},
		{" 1 a", 1, api.ErrCode},
		{"x y", 1, api.ErrCode},
		{"01 a", 1, api.ErrCode},
		{"1. a", 1, api.ErrCode},
		{"1 a\n1.0 b", 2, api.ErrCode},
		{"1 a\n2 b\n \n", 3, api.ErrCode},
		{"1 ", 1, api.ErrSyntax},
		{"1 \n", 1, api.ErrSyntax},
		{"1  ", 1, api.ErrSyntax},
		{"1  a", 1, api.ErrSyntax},
		{"1 a ", 1, api.ErrSyntax},
		{"1 a\n2 b \n", 2, api.ErrSyntax},
		{"1 a\r\n", 1, api.ErrSyntax},
		{"1 a\tb\n", 1, api.ErrSyntax},
		{"1 é", 1, api.ErrSyntax},
		{"1 \xff", 1, api.ErrSyntax},
		{"1 a\n2 b\x00\n", 2, api.ErrSyntax},
		{"1 " + strings.Repeat("n", mostName+1), 1, api.ErrSyntax},
		{"2 a\n1 b\n", 2, api.ErrOrder},
		{"1 a\n1 a\n", 2, api.ErrOrder},
		{"3 a\n3.10 b\n3.9 c\n", 3, api.ErrOrder},
		{"1.1 a\n1 b\n", 2, api.ErrOrder},
		{"1.1 a\n", 1, api.ErrUnknown},
		{"1 a\n2 b\n3.1 c\n4 d\n", 3, api.ErrUnknown},
		{"1 a\n1.1.1 b\n", 2, api.ErrUnknown},
		{"1.1 a\nx y\n", 1, api.ErrUnknown},
		{strings.Repeat("1 a\n", mostCodes+1), 0, api.ErrLimit},
		{strings.Repeat(" \n", mostCodes+1), 0, api.ErrLimit},
	} {
		expectParse(t, c.text, nil, c.number, c.e)
	}
}

func TestParseOfLongTexts(t *testing.T) {
	name := func(n int) string { return "1 " + strings.Repeat("n", n-2) }
	expectParse(t, name(mostText), nil, 1, api.ErrSyntax)
	expectParse(t, name(mostText+1), nil, 0, api.ErrLimit)
	expectParse(t, strings.Repeat("\n", mostText), nil, 1, api.ErrSyntax)
	expectParse(t, strings.Repeat("\n", mostText+1), nil, 0, api.ErrLimit)
	expectParse(t, strings.Repeat("1 a\n", mostText/4), nil, 0, api.ErrLimit)
	expectParse(t, strings.Repeat(" \n", mostText/2-1)+"x\n", nil, mostText/2, api.ErrSyntax)
	expectParse(t, strings.Repeat(" ", mostText), nil, 1, api.ErrCode)
	expectParse(t, strings.Repeat("1 a\n", 1000000), nil, 0, api.ErrLimit)
	most := tree(manyCodes(mostCodes)...)
	for i := range most {
		most[i].Name = fmt.Sprintf("%040d", i)
	}
	expectParse(t, Text(most), most, 0, api.OK)
	expectParse(t, Text(most)+"99 one too many\n", nil, 0, api.ErrLimit)
}

func TestListsComeBackFromTheirTexts(t *testing.T) {
	r := rand.New(rand.NewSource(7))
	for range 5000 {
		l := randomList(r)
		if Valid(l) != api.OK {
			expect(t, Text(l), "?", "Text", l)
			continue
		}
		text := Text(l)
		expectParse(t, text, l, 0, api.OK)
		expectParse(t, strings.TrimSuffix(text, "\n"), l, 0, api.OK)
	}
}

// parsed goes by the document's words.
func parsed(text string) ([]api.Heading, int, api.Errno) {
	if len(text) > mostText {
		return nil, 0, api.ErrLimit
	}
	if text == "" {
		return nil, 0, api.OK
	}
	var l []api.Heading
	lines := strings.Split(text, "\n")
	if lines[len(lines)-1] == "" {
		lines = lines[:len(lines)-1]
	}
	for i, line := range lines {
		blank := strings.IndexByte(line, ' ')
		if blank < 0 {
			return nil, i + 1, api.ErrSyntax
		}
		l = append(l, api.Heading{Code: line[:blank], Name: line[blank+1:]})
	}
	if number, e := faultOf(l); e != api.OK {
		return nil, number, e
	}
	return l, 0, api.OK
}

func TestParseOfRandomTexts(t *testing.T) {
	r := rand.New(rand.NewSource(8))
	seen := map[api.Errno]int{}
	for range 50000 {
		text := ""
		for _, h := range randomList(r) {
			text += h.Code + " " + h.Name + "\n"
		}
		for range r.Intn(2) {
			i := r.Intn(len(text) + 1)
			text = text[:i] + []string{" ", "\n", ".", "1", "x", ""}[r.Intn(6)] + text[min(i+r.Intn(2), len(text)):]
		}
		want, number, e := parsed(text)
		seen[e]++
		expectParse(t, text, want, number, e)
	}
	for _, e := range []api.Errno{api.OK, api.ErrCode, api.ErrSyntax, api.ErrOrder, api.ErrUnknown} {
		if seen[e] < 100 {
			t.Errorf("only %d texts have the error %d", seen[e], e)
		}
	}
}
