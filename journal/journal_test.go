package journal

import (
	"fmt"
	"math"
	"math/rand"
	"slices"
	"strings"
	"testing"

	"treasury/api"
	"treasury/office"
)

// P16.1

func TestTextsOfOperations(t *testing.T) {
	for text, op := range texts() {
		if got := Text(op); got != text || !Plain(op) {
			t.Errorf("the text of %v: %q, plain %v, not %q", op, got, Plain(op), text)
		}
		if got, e := Parse(text); got != op || e != api.OK {
			t.Errorf("%q is %v, error %d", text, got, e)
		}
		if !textForm.MatchString(text) {
			t.Errorf("%q does not have the form", text)
		}
	}
}

// fieldsOf returns the numbers of an operation.
func fieldsOf(op *api.Op) map[string]*int {
	return map[string]*int{"YEAR": &op.Year, "DAY": &op.Day, "OF": &op.Of, "AMOUNT": &op.Amount, "PAYEE": &op.Payee, "DUE": &op.Due, "GRANTED": &op.Granted, "ASKEDBACK": &op.AskedBack}
}

// used is a reference: the fields of each kind.
var used = map[int]string{1: "CODE YEAR DAY AMOUNT", 2: "OF DAY AMOUNT PAYEE DUE", 3: "OF DAY AMOUNT", 4: "OF DAY", 5: "OF AMOUNT", 6: "OF AMOUNT", 7: "CODE YEAR AMOUNT", 8: "CODE YEAR GRANTED ASKEDBACK", 9: "OF"}

func TestPlainOfAllFields(t *testing.T) {
	for kind := range used {
		base := api.Op{Kind: kind}
		words := strings.Fields(used[kind])
		if slices.Contains(words, "CODE") {
			base.Code = "2.1"
		}
		if !Plain(base) {
			t.Errorf("%v is not plain", base)
		}
		for name := range fieldsOf(&base) {
			for _, n := range []int{math.MinInt, -1, 1, 99, 100, mostTotal, mostTotal + 1, math.MaxInt} {
				op := base
				*fieldsOf(&op)[name] = n
				most := mostTotal
				if name == "YEAR" {
					most = 99
				}
				checkPlain(t, op, slices.Contains(words, name) && n >= 0 && n <= most)
			}
		}
		for _, code := range []string{"", "1", "99.99.99.99", "0", "01", "1.", ".1", "100", "1.1.1.1.1", "x", "1 ", "1\n"} {
			op := base
			op.Code = code
			want := code == "1" || code == "99.99.99.99"
			if !slices.Contains(words, "CODE") {
				want = code == ""
			}
			checkPlain(t, op, want)
		}
	}
	for _, kind := range []int{0, -1, 10, math.MinInt, math.MaxInt} {
		checkPlain(t, api.Op{Kind: kind}, false)
		checkPlain(t, api.Op{Kind: kind, Code: "1", Of: 1}, false)
	}
}

// checkPlain fails unless an operation is plain, and comes back from its text, or neither.
func checkPlain(t *testing.T, op api.Op, want bool) {
	t.Helper()
	text := Text(op)
	if Plain(op) != want || (text != "") != want || want != textForm.MatchString(text) {
		t.Errorf("%v: plain %v, text %q", op, Plain(op), text)
	}
	if !want {
		return
	}
	if back, e := Parse(text); back != op || e != api.OK {
		t.Errorf("%q is %v, error %d, not %v", text, back, e, op)
	}
}

func TestTextsOfNoOperation(t *testing.T) {
	for _, text := range []string{
		"", " ", "reserve", "reserve ", "reserve 1", "reserve 1 12 4330", "reserve 1 12 4330 43 1", "reserve  1 12 4330 43", " reserve 1 12 4330 43", "reserve 1 12 4330 43 ", "reserve 1 12 4330 43\n", "Reserve 1 12 4330 43", "reserve\t1 12 4330 43",
		"reserve 01 12 4330 43", "reserve 1. 12 4330 43", "reserve x 12 4330 43", "reserve 1 012 4330 43", "reserve 1 100 4330 43", "reserve 1 -1 4330 43", "reserve 1 12 04330 43", "reserve 1 12 -4330 43", "reserve 1 12 +4330 43", "reserve 1 12 4330 0x43", "reserve 1 12 4330 4_3",
		"reserve 1 12 4330 1000000000000001", "reserve 1 12 4330 10000000000000000", "reserve 1 12 4330 9223372036854775808", "reserve 1 12 4330 18446744073709551617", "reserve 1 12 4330 01000000000000000", "reserve 1 12 4330 4.3", "reserve 1 12 4330 \u0664",
		"commit 1 4330 40 7", "verify 1 4340", "verify 1 4340 25 1", "order 1", "order 1 2 3", "order 1 12 4330 43", "release 1", "drop 1 2 3", "return 1 12", "return 1 12 10 1", "hear 1 12 100", "hear 1 12 100 0 0", "returned", "returned 1 1", "returned 1.1", "return 1", "returned 1 12 10", "give 1 12 10", "1", "0",
		strings.Repeat("returned ", 1000), "returned " + strings.Repeat("1", 1000), strings.Repeat(" ", 1000),
	} {
		if op, e := Parse(text); op != (api.Op{}) || e != api.ErrSyntax {
			t.Errorf("%.60q is %v, error %d", text, op, e)
		}
		if textForm.MatchString(text) {
			t.Errorf("%.60q has the form", text)
		}
	}
}

func TestParseChangedTexts(t *testing.T) {
	r := rand.New(rand.NewSource(161))
	var all []string
	for text := range texts() {
		all = append(all, text)
	}
	slices.Sort(all)
	read := 0
	for range 60000 {
		text := []byte(all[r.Intn(len(all))])
		for range 1 + r.Intn(2) {
			i := r.Intn(len(text))
			switch r.Intn(3) {
			case 0:
				text[i] = "0123456789 .-+dh\n"[r.Intn(17)]
			case 1:
				text = slices.Delete(text, i, i+1)
			case 2:
				text = slices.Insert(text, i, "0123456789 ."[r.Intn(12)])
			}
			if len(text) == 0 {
				break
			}
		}
		op, e := Parse(string(text))
		if fits := textForm.Match(text); fits != (e == api.OK) || fits && Text(op) != string(text) || !fits && (e != api.ErrSyntax || op != api.Op{}) {
			t.Fatalf("%q is %v, error %d", text, op, e)
		}
		if e == api.OK {
			read++
		}
	}
	if read < 5000 {
		t.Errorf("only %d of the changed texts are read", read)
	}
}

// P16.2

// badJournals are journals that are not valid.
func badJournals(t *testing.T) map[string]api.Journal {
	with := func(change func(j *api.Journal)) api.Journal {
		j := journalOf(t, 2, 3, chain)
		change(&j)
		return j
	}
	return map[string]api.Journal{
		"nothing":                    {},
		"no office":                  with(func(j *api.Journal) { j.Office = 0 }),
		"an office below 0":          with(func(j *api.Journal) { j.Office = -1 }),
		"an office too large":        with(func(j *api.Journal) { j.Office = mostOffices + 1 }),
		"flushed below 0":            with(func(j *api.Journal) { j.Flushed = -1 }),
		"more flushed than there is": with(func(j *api.Journal) { j.Flushed = 12 }),
		"the ends of numbers":        {Office: math.MaxInt, Flushed: math.MinInt},
		"the least number flushed":   {Office: 1, Flushed: math.MinInt},
		"a record that is not plain": with(func(j *api.Journal) { j.Records[1].Payee = 1 }),
		"a last one that is not":     with(func(j *api.Journal) { j.Records[10].Granted = 1 }),
		"no kind":                    with(func(j *api.Journal) { j.Records[4] = api.Op{} }),
		"a record that is too much":  with(func(j *api.Journal) { j.Records[1].Amount = 101 }),
		"a record too early":         with(func(j *api.Journal) { j.Records[2], j.Records[1] = j.Records[1], j.Records[2] }),
		"the first one is missing":   with(func(j *api.Journal) { j.Records = j.Records[1:] }),
		"a last one that is no more": with(func(j *api.Journal) { j.Records[10].Amount = 76 }),
		"401 records":                {Office: 1, Records: slices.Repeat([]api.Op{texts()["hear 1 12 100 0"]}, mostRecords+1)},
	}
}

func TestValidStateAndStable(t *testing.T) {
	for _, flushed := range []int{0, 1, 5, 10, 11} {
		j := journalOf(t, 2, flushed, chain)
		if !Valid(j) {
			t.Errorf("%d flushed: not valid", flushed)
		}
		last, e := State(j)
		stable, f := Stable(j)
		if e != api.OK || f != api.OK || !office.Same(last, stateOf(t, 2, j.Records)) || !office.Same(stable, stateOf(t, 2, j.Records[:flushed])) {
			t.Errorf("%d flushed: state %v, stable %v, errors %d and %d", flushed, last, stable, e, f)
		}
	}
	empty := api.Journal{Office: 6}
	last, e := State(empty)
	stable, f := Stable(empty)
	if !Valid(empty) || e != api.OK || f != api.OK || !office.Same(last, api.Office{Number: 6}) || !office.Same(stable, last) {
		t.Errorf("the empty journal: %v, %v, errors %d and %d", last, stable, e, f)
	}
	if full := (api.Journal{Office: 1, Records: slices.Repeat([]api.Op{texts()["hear 1 12 100 0"]}, mostRecords)}); !Valid(full) {
		t.Error("400 records are not valid")
	}
}

func TestJournalsThatAreNotValid(t *testing.T) {
	for name, j := range badJournals(t) {
		if Valid(j) {
			t.Errorf("%s: valid", name)
		}
		for _, get := range []func(api.Journal) (api.Office, api.Errno){State, Stable} {
			if o, e := get(j); e != api.ErrInvalid || !office.Same(o, api.Office{}) {
				t.Errorf("%s: %v, error %d", name, o, e)
			}
		}
		got, e := Append(j, texts()["hear 1 12 100 0"])
		refused(t, name, got, e, api.ErrInvalid)
		got, e = Append(j, api.Op{})
		refused(t, name, got, e, api.ErrInvalid)
		kept := cloneOf(j)
		for _, same := range []func(api.Journal) api.Journal{Flush, Crash} {
			got := same(j)
			is(t, name, got, api.OK, kept)
			for i := range got.Records {
				got.Records[i].Kind = -7
			}
			is(t, name+", its argument", j, api.OK, kept)
		}
		if text := Bytes(j); text != "" {
			t.Errorf("%s: bytes %q", name, text)
		}
	}
}

func TestNew(t *testing.T) {
	for number := 1; number <= mostOffices; number++ {
		j, e := New(number)
		is(t, "a new one", j, e, api.Journal{Office: number})
		if !Valid(j) {
			t.Errorf("%d is not valid", number)
		}
	}
	for _, number := range []int{0, -1, mostOffices + 1, math.MinInt, math.MaxInt} {
		j, e := New(number)
		refused(t, fmt.Sprint(number), j, e, api.ErrRange)
	}
}

func TestSame(t *testing.T) {
	j := journalOf(t, 2, 3, chain)
	if !Same(j, cloneOf(j)) || !Same(api.Journal{}, api.Journal{Records: []api.Op{}}) {
		t.Error("what is the same is not")
	}
	for name, change := range map[string]func(j *api.Journal){
		"the office":    func(j *api.Journal) { j.Office++ },
		"what is flush": func(j *api.Journal) { j.Flushed++ },
		"a record":      func(j *api.Journal) { j.Records[10].Amount++ },
		"a record less": func(j *api.Journal) { j.Records = j.Records[:10] },
		"no records":    func(j *api.Journal) { j.Records = nil },
	} {
		x := cloneOf(j)
		change(&x)
		if Same(j, x) || Same(x, j) {
			t.Errorf("%s: the same", name)
		}
	}
}

// P16.3

func TestAppend(t *testing.T) {
	all := journalOf(t, 3, 0, chain).Records
	j, _ := New(3)
	for i, op := range all {
		next, e := Append(j, op)
		is(t, Text(op), next, e, api.Journal{Office: 3, Records: all[:i+1]})
		j = next
	}
	j = Flush(j)
	is(t, "flushed", j, api.OK, api.Journal{Office: 3, Records: all, Flushed: 11})
	j, e := Append(j, texts()["returned 1"])
	is(t, "one more", j, e, api.Journal{Office: 3, Records: append(slices.Clone(all), texts()["returned 1"]), Flushed: 11})
	is(t, "crashed", Crash(j), api.OK, api.Journal{Office: 3, Records: all, Flushed: 11})
	is(t, "flushed again", Flush(j), api.OK, api.Journal{Office: 3, Records: j.Records, Flushed: 12})
	is(t, "crashed at once", Crash(journalOf(t, 3, 0, chain)), api.OK, api.Journal{Office: 3})
}

func TestErrorsOfAppend(t *testing.T) {
	j := journalOf(t, 2, 3, chain)
	for _, c := range []struct {
		name string
		op   api.Op
		want api.Errno
	}{
		{"no operation", api.Op{}, api.ErrInvalid},
		{"not plain", api.Op{Kind: api.OpReturned, Of: 1, Amount: 1}, api.ErrInvalid},
		{"not plain, and not possible", api.Op{Kind: api.OpReturned, Of: 9, Amount: 1}, api.ErrInvalid},
		{"a year that is none", api.Op{Kind: api.OpHear, Code: "1", Year: 100}, api.ErrInvalid},
		{"what is not there", texts()["returned 0"], api.ErrUnknown},
		{"too much", api.Op{Kind: api.OpReserve, Code: "1", Year: 12, Day: 4330, Amount: 46}, api.ErrFunds},
		{"out of its range", texts()["reserve 99.99.99.99 99 0 0"], api.ErrRange},
		{"in another year", texts()["reserve 1 12 123456789 987654321000"], api.ErrRange},
		{"not back", texts()["order 1 4341"], api.ErrRepeated},
	} {
		got, e := Append(j, c.op)
		refused(t, c.name, got, e, c.want)
	}
	full := api.Journal{Office: 1, Records: slices.Repeat([]api.Op{texts()["hear 1 12 100 0"]}, mostRecords)}
	got, e := Append(full, full.Records[0])
	refused(t, "a full journal", got, e, api.ErrLimit)
	got, e = Append(full, texts()["returned 1"])
	refused(t, "what is not possible ahead of limits", got, e, api.ErrUnknown)
	short := full
	short.Records = short.Records[:mostRecords-1]
	got, e = Append(short, full.Records[0])
	is(t, "the last record", got, e, full)
}

// P16.4

func TestBytesAndLoad(t *testing.T) {
	all := "office 2\n" + strings.ReplaceAll(chain, "; ", "\n") + "\n"
	j := journalOf(t, 2, 11, chain)
	if got := Bytes(j); got != all {
		t.Errorf("bytes: %q, not %q", got, all)
	}
	for _, torn := range []string{"", "r", "returned 1", "no operation at all", "\x00"} {
		got, dropped, e := Load(all + torn)
		is(t, "loaded", got, e, j)
		if dropped != (torn != "") {
			t.Errorf("%q is torn: %v", torn, dropped)
		}
	}
	j.Flushed = 1
	if got, want := Bytes(j), "office 2\nhear 1 12 100 0\n"; got != want {
		t.Errorf("bytes: %q, not %q", got, want)
	}
	j.Flushed = 0
	if got := Bytes(j); got != "office 2\n" {
		t.Errorf("bytes of nothing: %q", got)
	}
	got, dropped, e := Load("office 6\n")
	is(t, "nothing", got, e, api.Journal{Office: 6})
	if dropped {
		t.Error("nothing is torn")
	}
}

func TestExample(t *testing.T) {
	j, torn, e := Load("office 2\nhear 1 12 100 0\nreserve 1 12 43")
	is(t, "the example", j, e, api.Journal{Office: 2, Records: []api.Op{texts()["hear 1 12 100 0"]}, Flushed: 1})
	if !torn {
		t.Error("nothing is torn")
	}
}

func TestErrorsOfLoad(t *testing.T) {
	many := func(n int, line string) string { return strings.Repeat(line+"\n", n) }
	for _, c := range []struct {
		name, text string
		want       api.Errno
	}{
		{"nothing", "", api.ErrSyntax},
		{"no line feed", "office 2", api.ErrSyntax},
		{"an empty line", "\n", api.ErrSyntax},
		{"an empty line ahead", "\noffice 2\n", api.ErrSyntax},
		{"no number", "office \n", api.ErrSyntax},
		{"no blank", "office2\n", api.ErrSyntax},
		{"two blanks", "office  2\n", api.ErrSyntax},
		{"a blank behind", "office 2 \n", api.ErrSyntax},
		{"a blank ahead", " office 2\n", api.ErrSyntax},
		{"the number 0", "office 0\n", api.ErrSyntax},
		{"the number 7", "office 7\n", api.ErrSyntax},
		{"a zero ahead", "office 02\n", api.ErrSyntax},
		{"a sign", "office +2\n", api.ErrSyntax},
		{"a number below 0", "office -2\n", api.ErrSyntax},
		{"another word", "Office 2\n", api.ErrSyntax},
		{"a number alone", "2\n", api.ErrSyntax},
		{"an operation first", "hear 1 12 100 0\n", api.ErrSyntax},
		{"a carriage return", "office 2\r\n", api.ErrSyntax},
		{"a record that is none", "office 2\nhear 1 12 100\n", api.ErrSyntax},
		{"a record that is empty", "office 2\n\nhear 1 12 100 0\n", api.ErrSyntax},
		{"a record that is empty at the end", "office 2\nhear 1 12 100 0\n\n", api.ErrSyntax},
		{"a record that is not possible", "office 2\nreturned 1\n", api.ErrState},
		{"too much", "office 2\nhear 1 12 100 0\nreserve 1 12 4330 101\n", api.ErrState},
		{"not possible ahead of no record", "office 2\nreturned 1\nx\n", api.ErrState},
		{"no record ahead of not possible", "office 2\nx\nreturned 1\n", api.ErrSyntax},
		{"401 records", "office 2\n" + many(mostRecords+1, "hear 1 12 100 0"), api.ErrLimit},
		{"401 lines that are no records", "office 2\n" + many(mostRecords+1, "x"), api.ErrLimit},
		{"400 lines that are no records", "office 2\n" + many(mostRecords, "x"), api.ErrSyntax},
		{"401 lines of no office", "office 7\n" + many(mostRecords+1, "x"), api.ErrSyntax},
	} {
		j, torn, e := Load(c.text)
		refused(t, c.name, j, e, c.want)
		k, alsoTorn, e := Load(c.text + "torn")
		refused(t, c.name+", torn", k, e, c.want)
		if torn || alsoTorn {
			t.Errorf("%s: torn", c.name)
		}
	}
	full, torn, e := Load("office 2\n" + many(mostRecords, "hear 1 12 100 0") + "x")
	if e != api.OK || !torn || len(full.Records) != mostRecords || full.Flushed != mostRecords {
		t.Errorf("400 records: %d, error %d", len(full.Records), e)
	}
}

// The consequences, and P1

func TestRandomJournals(t *testing.T) {
	r := rand.New(rand.NewSource(162))
	records := 0
	for range 100 {
		j := randomJournal(t, r, 60)
		records += len(j.Records)
		crashed := Crash(j)
		text := Bytes(j)
		loaded, torn, e := Load(text)
		is(t, "loaded", loaded, e, crashed)
		stable, f := Stable(j)
		state, g := State(crashed)
		if torn || f != api.OK || g != api.OK || !office.Same(stable, state) || !office.Same(state, stateOf(t, j.Office, j.Records[:j.Flushed])) || !Valid(j) || Bytes(crashed) != text {
			t.Fatalf("torn %v, errors %d and %d, stable %v, state %v", torn, f, g, stable, state)
		}
		// Wherever the bytes are cut, the records whose lines are whole come back.
		for range 20 {
			cut := text[:len("office 2\n")+r.Intn(len(text)-len("office 2\n")+1)]
			whole := strings.Count(cut, "\n") - 1
			got, torn, e := Load(cut)
			is(t, "cut", got, e, api.Journal{Office: j.Office, Records: j.Records[:whole], Flushed: whole})
			if torn != !strings.HasSuffix(cut, "\n") {
				t.Fatalf("torn %v of %q", torn, cut)
			}
		}
	}
	if records < 1500 {
		t.Errorf("only %d records", records)
	}
}

func TestResultsAreNewMemory(t *testing.T) {
	j := journalOf(t, 2, 3, chain)
	// A list with room behind it must not be grown in place.
	j.Records = append(j.Records, api.Op{})[:11]
	kept := cloneOf(j)
	appended, _ := Append(j, texts()["returned 1"])
	for _, x := range []api.Journal{appended, Flush(j), Crash(j)} {
		for i := range x.Records {
			x.Records[i].Kind = -7
		}
		if !Same(j, kept) || j.Records[:12][11] != (api.Op{}) {
			t.Fatal("a result shares its memory")
		}
	}
}
