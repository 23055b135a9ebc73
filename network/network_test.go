package network

import (
	"fmt"
	"math"
	"math/rand"
	"slices"
	"testing"

	"treasury/api"
	"treasury/journal"
	"treasury/office"
	"treasury/rights"
)

// P17.1

func TestValid(t *testing.T) {
	for _, c := range []struct {
		name   string
		change func(w *api.World)
		want   bool
	}{
		{"as it is", func(w *api.World) {}, true},
		{"nothing", func(w *api.World) { *w = api.World{} }, false},
		{"no mail", func(w *api.World) { w.Mail = nil }, true},
		{"a treasury that is not valid", func(w *api.World) { w.Treasury.Pots[0].Used[0] = -1 }, false},
		{"a journal less", func(w *api.World) { w.Journals = w.Journals[:1] }, false},
		{"a journal more", func(w *api.World) { w.Journals = append(w.Journals, api.Journal{Office: 3}) }, false},
		{"journals in another order", func(w *api.World) { w.Journals[0], w.Journals[1] = w.Journals[1], w.Journals[0] }, false},
		{"a journal of another office", func(w *api.World) { w.Journals[1].Office = 3 }, false},
		{"a journal that is not valid", func(w *api.World) { w.Journals[1].Records[1].Amount = 41 }, false},
		{"more flushed than there is", func(w *api.World) { w.Journals[0].Flushed = 3 }, false},

		{"a right without a pot", func(w *api.World) { w.Treasury.Pots, w.Mail = nil, nil }, false},
		{"a right to another pot", func(w *api.World) { w.Treasury.Pots[0].Code, w.Mail = "2", nil }, false},
		{"a right in another year", func(w *api.World) { w.Treasury.Pots[0].Year, w.Mail = 13, nil }, false},
		{"as much granted as an office has heard", func(w *api.World) { w.Treasury.Pots[0].Granted[1] = 40 }, true},
		{"less granted than an office has heard", func(w *api.World) { w.Treasury.Pots[0].Granted[1] = 39 }, false},
		{"less granted than office 1 has heard", func(w *api.World) { w.Treasury.Pots[0].Granted[0], w.Mail = 59, nil }, false},
		{"more granted", func(w *api.World) { w.Treasury.Pots[0].Granted[1] = 41 }, true},
		{"less asked than an office has heard", func(w *api.World) { w.Journals[1].Records[0].AskedBack = 1 }, false},
		{"a record that says more", func(w *api.World) { w.Journals[0].Records[0].Granted = 61 }, false},

		{"as much heard as was returned", func(w *api.World) { w.Treasury.Pots[0].Heard[1] = 15 }, true},
		{"more heard than was returned", func(w *api.World) { w.Treasury.Pots[0].Heard[1] = 16 }, false},
		{"heard what was never said", func(w *api.World) { w.Treasury.Pots[0].Heard[0] = 1 }, false},
		{"heard what can be forgotten", func(w *api.World) { w.Treasury.Pots[0].Heard[1], w.Journals[1].Flushed, w.Mail = 15, 2, nil }, false},
		{"heard of an office without a right", func(w *api.World) {
			w.Treasury.Pots = append(w.Treasury.Pots, potOf("2", 5, 1))
		}, false},
		{"nothing heard of an office without a right", func(w *api.World) {
			w.Treasury.Pots = append(w.Treasury.Pots, potOf("2", 5, 0))
		}, true},

		{"from nobody", func(w *api.World) { w.Mail[0].From = 0 }, false},
		{"from an office to an office", func(w *api.World) { w.Mail[0].To = 1 }, false},
		{"from an office that is not there", func(w *api.World) { w.Mail[0].From = 3 }, false},
		{"from less than an office", func(w *api.World) { w.Mail[0].From = -1 }, false},
		{"to an office that is not there", func(w *api.World) { w.Mail[1].To = 3 }, false},
		{"to less than an office", func(w *api.World) { w.Mail[1].To = -1 }, false},
		{"to itself", func(w *api.World) { w.Mail[1].To = 0 }, false},
		{"about a pot that is not there", func(w *api.World) { w.Mail[0].Code = "2" }, false},
		{"about a year that is not there", func(w *api.World) { w.Mail[1].Year = 11 }, false},
		{"less granted in a message", func(w *api.World) { w.Mail[1].Granted = 0 }, true},
		{"more granted in a message", func(w *api.World) { w.Mail[1].Granted = 61 }, false},
		{"granted below 0 in a message", func(w *api.World) { w.Mail[1].Granted = -1 }, false},
		{"less asked in a message", func(w *api.World) { w.Mail[1].Asked = 0 }, true},
		{"more asked in a message", func(w *api.World) { w.Mail[1].Asked = 11 }, false},
		{"asked below 0 in a message", func(w *api.World) { w.Mail[1].Asked = -1 }, false},
		{"the treasury returns", func(w *api.World) { w.Mail[1].Returned = 1 }, false},
		{"the treasury uses", func(w *api.World) { w.Mail[1].Used = 1 }, false},
		{"what the other one was granted", func(w *api.World) { w.Mail[1].To, w.Mail[1].Asked = 2, 0 }, false},
		{"less returned in a message", func(w *api.World) { w.Mail[0].Returned = 0 }, true},
		{"more returned in a message", func(w *api.World) { w.Mail[0].Returned = 16 }, false},
		{"returned below 0 in a message", func(w *api.World) { w.Mail[0].Returned = -1 }, false},
		{"returned what can be forgotten", func(w *api.World) { w.Journals[1].Flushed = 2 }, false},
		{"used more in a message", func(w *api.World) { w.Mail[0].Used = mostTotal }, true},
		{"used too much in a message", func(w *api.World) { w.Mail[0].Used = mostTotal + 1 }, false},
		{"used below 0 in a message", func(w *api.World) { w.Mail[0].Used = -1 }, false},
		{"an office grants", func(w *api.World) { w.Mail[0].Granted = 1 }, false},
		{"an office asks", func(w *api.World) { w.Mail[0].Asked = 1 }, false},
		{"200 messages", func(w *api.World) { w.Mail = slices.Repeat(w.Mail, 100) }, true},
		{"201 messages", func(w *api.World) { w.Mail = append(slices.Repeat(w.Mail, 100), w.Mail[0]) }, false},
		{"a bad message behind others", func(w *api.World) { w.Mail = append(w.Mail, api.Message{}) }, false},
	} {
		w := example(t)
		c.change(&w)
		if got := Valid(w); got != c.want || got != validOf(w) {
			t.Errorf("%s: %v", c.name, got)
		}
		if Safe(w) != c.want {
			t.Errorf("%s: safe %v", c.name, !c.want)
		}
		if !c.want {
			invalid(t, c.name, w)
		}
	}
}

// potOf returns a pot of two offices of which the first one has been heard.
func potOf(code string, year, heard int) api.Pot {
	return api.Pot{Code: code, Year: year, Total: 9, Granted: []int{5, 0}, Heard: []int{heard, 0}, Asked: []int{0, 0}, Used: []int{0, 0}}
}

// invalid fails unless all functions refuse a world that is not valid.
func invalid(t *testing.T, name string, w api.World) {
	t.Helper()
	for kind := range 13 {
		got, e := Do(w, api.Step{Kind: kind, Office: 1, Code: "1", Year: 12, Amount: 1})
		refused(t, fmt.Sprint(name, ", Do ", kind), got, e, api.ErrInvalid)
	}
	for _, number := range []int{0, 1} {
		if o, e := Office(w, number); e != api.ErrInvalid || !office.Same(o, api.Office{}) {
			t.Errorf("%s: the office %v, error %d", name, o, e)
		}
	}
	got, e := Calm(w)
	refused(t, name+", Calm", got, e, api.ErrInvalid)
	if total, out, may, used := Sums(w, "1", 12); total != 0 || out != 0 || may != 0 || used != 0 {
		t.Errorf("%s: sums %d, %d, %d, %d", name, total, out, may, used)
	}
}

func TestNew(t *testing.T) {
	for offices := 1; offices <= mostOffices; offices++ {
		w, e := New(offices)
		want := api.World{Treasury: api.Treasury{Offices: offices}}
		for k := range offices {
			want.Journals = append(want.Journals, api.Journal{Office: k + 1})
		}
		is(t, "a new one", w, e, want)
		if !Valid(w) || !Safe(w) {
			t.Errorf("%d offices: not valid", offices)
		}
	}
	for _, offices := range []int{0, -1, mostOffices + 1, math.MinInt, math.MaxInt} {
		w, e := New(offices)
		refused(t, fmt.Sprint(offices), w, e, api.ErrRange)
		w, codes, e := Run(offices, make([]api.Step, mostSteps+1))
		refused(t, fmt.Sprint("Run of ", offices), w, e, api.ErrRange)
		if codes != nil {
			t.Errorf("codes %v", codes)
		}
	}
}

func TestOffice(t *testing.T) {
	w := example(t)
	for number := 1; number <= 2; number++ {
		want, _ := journal.State(w.Journals[number-1])
		if o, e := Office(w, number); e != api.OK || !office.Same(o, want) {
			t.Errorf("office %d: %v, error %d", number, o, e)
		}
	}
	for _, number := range []int{0, 3, -1, math.MinInt, math.MaxInt} {
		if o, e := Office(w, number); e != api.ErrUnknown || !office.Same(o, api.Office{}) {
			t.Errorf("office %d: %v, error %d", number, o, e)
		}
	}
}

func TestSame(t *testing.T) {
	w := example(t)
	if !Same(w, cloneOf(w)) || !Same(api.World{}, api.World{Mail: []api.Message{}, Journals: []api.Journal{}}) {
		t.Error("what is the same is not")
	}
	for name, change := range map[string]func(w *api.World){
		"the offices":    func(w *api.World) { w.Treasury.Offices++ },
		"a pot less":     func(w *api.World) { w.Treasury.Pots = nil },
		"a code":         func(w *api.World) { w.Treasury.Pots[0].Code = "2" },
		"a year":         func(w *api.World) { w.Treasury.Pots[0].Year++ },
		"a total":        func(w *api.World) { w.Treasury.Pots[0].Total++ },
		"granted":        func(w *api.World) { w.Treasury.Pots[0].Granted[1]++ },
		"heard":          func(w *api.World) { w.Treasury.Pots[0].Heard[1]++ },
		"asked":          func(w *api.World) { w.Treasury.Pots[0].Asked[1]++ },
		"used":           func(w *api.World) { w.Treasury.Pots[0].Used[1]++ },
		"a journal less": func(w *api.World) { w.Journals = w.Journals[:1] },
		"a record":       func(w *api.World) { w.Journals[1].Records[1].Amount++ },
		"flushed":        func(w *api.World) { w.Journals[1].Flushed++ },
		"a message":      func(w *api.World) { w.Mail[1].Asked++ },
		"a message less": func(w *api.World) { w.Mail = w.Mail[:1] },
		"their order":    func(w *api.World) { w.Mail[0], w.Mail[1] = w.Mail[1], w.Mail[0] },
	} {
		x := cloneOf(w)
		change(&x)
		if Same(w, x) || Same(x, w) {
			t.Errorf("%s: the same", name)
		}
	}
}

// P17.2

func TestDo(t *testing.T) {
	w := example(t)
	op := func(text string) api.Op { return doOf(t, 1, text).Op }
	for _, c := range []struct {
		name   string
		s      api.Step
		change func(w *api.World)
	}{
		{"a total", totalOf(-7), func(w *api.World) { w.Treasury.Pots[0].Total = -7 }},
		{"a new pot", api.Step{Kind: api.StepTotal, Code: "10", Year: 0, Amount: 5}, func(w *api.World) {
			w.Treasury.Pots = append(w.Treasury.Pots, api.Pot{Code: "10", Total: 5, Granted: []int{0, 0}, Heard: []int{0, 0}, Asked: []int{0, 0}, Used: []int{0, 0}})
		}},
		{"asked back", askOf(2, 40), func(w *api.World) { w.Treasury.Pots[0].Asked[1] = 40 }},
		{"told", tellOf(2), func(w *api.World) { w.Mail = append(w.Mail, toldOf(2, 40, 0)) }},
		{"told again", tellOf(1), func(w *api.World) { w.Mail = append(w.Mail, toldOf(1, 60, 10)) }},
		{"done", doOf(t, 1, "reserve 1 12 4331 10"), func(w *api.World) { w.Journals[0].Records = append(w.Journals[0].Records, op("reserve 1 12 4331 10")) }},
		{"returned", doOf(t, 2, "return 1 12 10"), func(w *api.World) { w.Journals[1].Records = append(w.Journals[1].Records, op("return 1 12 10")) }},
		{"flushed", atOf(api.StepFlush, 2), func(w *api.World) { w.Journals[1].Flushed = 4 }},
		{"flushed before", atOf(api.StepFlush, 1), func(w *api.World) {}},
		{"crashed", atOf(api.StepCrash, 2), func(w *api.World) { w.Journals[1].Records = w.Journals[1].Records[:3] }},
		{"crashed after a flush", atOf(api.StepCrash, 1), func(w *api.World) {}},
		{"reported", reportOf(1), func(w *api.World) { w.Mail = append(w.Mail, saidOf(1, 0, 50)) }},
		{"reported what can not be forgotten", reportOf(2), func(w *api.World) { w.Mail = append(w.Mail, saidOf(2, 15, 20)) }},
		{"delivered to the treasury", mailOf(api.StepDeliver, 0), func(w *api.World) {
			w.Mail = w.Mail[1:]
			w.Treasury.Pots[0].Heard[1], w.Treasury.Pots[0].Used[1] = 15, 20
		}},
		{"delivered to an office", mailOf(api.StepDeliver, 1), func(w *api.World) {
			w.Mail = w.Mail[:1]
			w.Journals[0].Records = append(w.Journals[0].Records, op("hear 1 12 60 10"))
		}},
		{"lost", mailOf(api.StepLose, 0), func(w *api.World) { w.Mail = w.Mail[1:] }},
		{"the last one lost", mailOf(api.StepLose, 1), func(w *api.World) { w.Mail = w.Mail[:1] }},
		{"doubled", mailOf(api.StepDouble, 0), func(w *api.World) { w.Mail = append(w.Mail, saidOf(2, 15, 20)) }},
	} {
		want := cloneOf(w)
		c.change(&want)
		got, e := Do(w, c.s)
		is(t, c.name, got, e, want)
		if !Valid(got) {
			t.Errorf("%s: not valid", c.name)
		}
	}
	w.Treasury.Pots[0].Total = 105
	got, e := Do(w, grantOf(2, 5))
	want := cloneOf(w)
	want.Treasury.Pots[0].Granted[1] = 45
	is(t, "granted", got, e, want)
}

func TestMessagesStayInTheirOrder(t *testing.T) {
	w := example(t)
	w = after(t, w, tellOf(2), reportOf(1), mailOf(api.StepDouble, 1))
	want := []api.Message{saidOf(2, 15, 20), toldOf(1, 60, 10), toldOf(2, 40, 0), saidOf(1, 0, 50), toldOf(1, 60, 10)}
	if !slices.Equal(w.Mail, want) {
		t.Errorf("mail %v", w.Mail)
	}
	for i := range want {
		for _, kind := range []int{api.StepDeliver, api.StepLose} {
			x := after(t, w, mailOf(kind, i))
			if !slices.Equal(x.Mail, slices.Delete(slices.Clone(want), i, i+1)) {
				t.Errorf("mail without %d: %v", i, x.Mail)
			}
		}
	}
}

func TestErrorsOfDo(t *testing.T) {
	w := example(t)
	full := cloneOf(w)
	full.Mail = slices.Repeat(full.Mail, 100)
	late := cloneOf(w)
	late.Journals[0].Records = append(late.Journals[0].Records, slices.Repeat([]api.Op{doOf(t, 1, "hear 1 12 60 0").Op}, mostRecords-2)...)
	for _, c := range []struct {
		name string
		w    api.World
		s    api.Step
		want api.Errno
	}{
		{"no kind", w, api.Step{}, api.ErrInvalid},
		{"a kind below 0", w, api.Step{Kind: -1, Office: 9}, api.ErrInvalid},
		{"a kind too large", w, api.Step{Kind: 12, Office: 9}, api.ErrInvalid},
		{"a total of no code", w, api.Step{Kind: api.StepTotal, Code: "x", Year: 12}, api.ErrCode},
		{"a total too large", w, totalOf(mostTotal + 1), api.ErrRange},
		{"a grant to nobody", w, grantOf(0, 5), api.ErrUnknown},
		{"a grant of nothing", w, grantOf(1, 0), api.ErrRange},
		{"a grant of more than what is free", w, grantOf(1, 1), api.ErrFunds},
		{"asked of nobody", w, askOf(3, 5), api.ErrUnknown},
		{"asked more than granted", w, askOf(1, 51), api.ErrFunds},
		{"told to nobody", w, tellOf(3), api.ErrUnknown},
		{"told of another pot", w, api.Step{Kind: api.StepTell, Office: 1, Code: "2", Year: 12}, api.ErrUnknown},
		{"told with full mail", full, tellOf(1), api.ErrLimit},
		{"told to nobody with full mail", full, tellOf(0), api.ErrUnknown},
		{"done by nobody", w, api.Step{Kind: api.StepDo, Office: 0}, api.ErrUnknown},
		{"heard by nobody", w, doOf(t, 3, "hear 1 12 60 0"), api.ErrUnknown},
		{"heard without a message", w, doOf(t, 1, "hear 1 12 60 0"), api.ErrState},
		{"heard what is not plain", w, api.Step{Kind: api.StepDo, Office: 1, Op: api.Op{Kind: api.OpHear, Of: 1}}, api.ErrState},
		{"done nothing", w, api.Step{Kind: api.StepDo, Office: 1}, api.ErrInvalid},
		{"done what is not plain", w, api.Step{Kind: api.StepDo, Office: 1, Op: api.Op{Kind: api.OpReturned, Of: 1, Due: 1}}, api.ErrInvalid},
		{"done what is not possible", w, doOf(t, 1, "returned 1"), api.ErrUnknown},
		{"reserved too much", w, doOf(t, 1, "reserve 1 12 4330 11"), api.ErrFunds},
		{"done behind a full journal", late, doOf(t, 1, "return 1 12 1"), api.ErrLimit},
		{"done too much behind a full journal", late, doOf(t, 1, "return 1 12 11"), api.ErrFunds},
		{"flushed by nobody", w, atOf(api.StepFlush, 0), api.ErrUnknown},
		{"crashed by nobody", w, atOf(api.StepCrash, 3), api.ErrUnknown},
		{"reported by nobody", w, reportOf(-1), api.ErrUnknown},
		{"reported of another pot", w, api.Step{Kind: api.StepReport, Office: 1, Code: "1", Year: 13}, api.ErrUnknown},
		{"reported with full mail", full, reportOf(1), api.ErrLimit},
		{"reported of another pot with full mail", full, api.Step{Kind: api.StepReport, Office: 1, Code: "1", Year: 13}, api.ErrUnknown},
		{"delivered what is not there", w, mailOf(api.StepDeliver, 2), api.ErrUnknown},
		{"delivered what is below 0", w, mailOf(api.StepDeliver, -1), api.ErrUnknown},
		{"delivered to a full journal", late, mailOf(api.StepDeliver, 1), api.ErrLimit},
		{"lost what is not there", w, mailOf(api.StepLose, 2), api.ErrUnknown},
		{"lost what is below 0", w, mailOf(api.StepLose, math.MinInt), api.ErrUnknown},
		{"doubled what is not there", full, mailOf(api.StepDouble, 200), api.ErrUnknown},
		{"doubled with full mail", full, mailOf(api.StepDouble, 199), api.ErrLimit},
	} {
		got, e := Do(c.w, c.s)
		refused(t, c.name, got, e, c.want)
	}
	if x := after(t, full, mailOf(api.StepLose, 199), tellOf(1)); len(x.Mail) != mostMessages {
		t.Errorf("%d messages", len(x.Mail))
	}
}

// P17.3

func TestRun(t *testing.T) {
	steps := []api.Step{totalOf(100), grantOf(1, 101), grantOf(1, 100), {Kind: 99}, tellOf(1), mailOf(api.StepDouble, 0), mailOf(api.StepDeliver, 0), mailOf(api.StepDeliver, 0), mailOf(api.StepDeliver, 0), doOf(t, 1, "reserve 1 12 4330 200"), doOf(t, 1, "reserve 1 12 4330 100")}
	w, codes, e := Run(1, steps)
	if want := []api.Errno{0, api.ErrFunds, 0, api.ErrInvalid, 0, 0, 0, 0, api.ErrUnknown, api.ErrFunds, 0}; e != api.OK || !slices.Equal(codes, want) {
		t.Errorf("codes %v, error %d", codes, e)
	}
	if total, out, may, used := Sums(w, "1", 12); total != 100 || out != 100 || may != 100 || used != 100 {
		t.Errorf("sums %d, %d, %d, %d", total, out, may, used)
	}
	w, codes, e = Run(3, nil)
	fresh, _ := New(3)
	is(t, "nothing", w, e, fresh)
	if len(codes) != 0 {
		t.Errorf("codes %v", codes)
	}
	w, codes, e = Run(1, make([]api.Step, mostSteps+1))
	refused(t, "201 steps", w, e, api.ErrLimit)
	if codes != nil {
		t.Errorf("codes %v", codes)
	}
	_, codes, e = Run(1, make([]api.Step, mostSteps))
	if e != api.OK || !slices.Equal(codes, slices.Repeat([]api.Errno{api.ErrInvalid}, mostSteps)) {
		t.Errorf("200 steps: codes %v, error %d", codes, e)
	}
}

// P17.4

func TestSumsAndSafe(t *testing.T) {
	w := example(t)
	for _, c := range []struct {
		code string
		year int
		want [4]int
	}{{"1", 12, [4]int{100, 100, 85, 65}}, {"1", 13, [4]int{}}, {"2", 12, [4]int{}}, {"", 0, [4]int{}}} {
		total, out, may, used := Sums(w, c.code, c.year)
		if got := [4]int{total, out, may, used}; got != c.want {
			t.Errorf("sums of %q in %d: %v, not %v", c.code, c.year, got, c.want)
		}
	}
	w = after(t, w, mailOf(api.StepDeliver, 0), totalOf(-5), atOf(api.StepCrash, 2))
	if total, out, may, used := Sums(w, "1", 12); total != -5 || out != 85 || may != 85 || used != 70 || !Safe(w) {
		t.Errorf("sums %d, %d, %d, %d, safe %v", total, out, may, used, Safe(w))
	}
}

// P17.5

func TestCalm(t *testing.T) {
	w := example(t)
	w = after(t, w, mailOf(api.StepDouble, 1), api.Step{Kind: api.StepTotal, Code: "2", Year: 12, Amount: 5})
	got, e := Calm(w)
	want := cloneOf(w)
	want.Mail = nil
	records := func(k int, texts ...string) {
		for _, text := range texts {
			want.Journals[k].Records = append(want.Journals[k].Records, doOf(t, 1, text).Op)
		}
		want.Journals[k].Flushed = len(want.Journals[k].Records)
	}
	records(0, "hear 1 12 60 10", "hear 1 12 60 10", "hear 1 12 60 10", "return 1 12 10", "hear 2 12 0 0")
	records(1, "hear 1 12 40 0", "hear 2 12 0 0")
	p := &want.Treasury.Pots[0]
	p.Heard, p.Used = []int{10, 15}, []int{50, 15}
	is(t, "calm", got, e, want)
	if total, out, may, used := Sums(got, "1", 12); total != 100 || out != 75 || may != 75 || used != 65 {
		t.Errorf("sums %d, %d, %d, %d", total, out, may, used)
	}
	fresh, _ := New(3)
	got, e = Calm(fresh)
	is(t, "nothing", got, e, fresh)
}

// fullJournals returns the example with so many records in both journals.
func fullJournals(t *testing.T, n int) api.World {
	w := example(t)
	for k, text := range []string{"hear 1 12 60 0", "hear 1 12 40 0"} {
		j := &w.Journals[k]
		for len(j.Records) < n {
			j.Records = append(j.Records, doOf(t, 1, text).Op)
		}
	}
	return w
}

func TestCalmOfFullJournals(t *testing.T) {
	// What is on its way to a full journal is lost, what is told then is not delivered; what is reported is.
	w := fullJournals(t, mostRecords)
	got, e := Calm(w)
	want := cloneOf(w)
	want.Mail = []api.Message{toldOf(1, 60, 10), toldOf(2, 40, 0)}
	want.Journals[0].Flushed, want.Journals[1].Flushed = mostRecords, mostRecords
	p := &want.Treasury.Pots[0]
	p.Heard, p.Used = []int{0, 15}, []int{50, 15}
	is(t, "full journals", got, e, want)
	for n := mostRecords - 4; n < mostRecords; n++ {
		w := fullJournals(t, n)
		got, e := Calm(w)
		is(t, fmt.Sprint(n), got, e, calmOf(w))
		if !Valid(got) || len(got.Journals[0].Records) > mostRecords {
			t.Errorf("%d records: not valid", n)
		}
	}
}

// The consequences, and P1

func TestExample(t *testing.T) {
	w, _, e := Run(1, []api.Step{totalOf(100), grantOf(1, 100), tellOf(1), mailOf(api.StepDouble, 0), mailOf(api.StepDeliver, 0), mailOf(api.StepDeliver, 0)})
	o, f := Office(w, 1)
	if e != api.OK || f != api.OK || office.Unused(o, "1", 12) != 100 {
		t.Errorf("errors %d and %d, %d may be used", e, f, office.Unused(o, "1", 12))
	}
}

func TestRandomWorlds(t *testing.T) {
	r := rand.New(rand.NewSource(171))
	done := map[int]int{}
	for range 60 {
		offices := 1 + r.Intn(3)
		w, _ := New(offices)
		var steps []api.Step
		var codes []api.Errno
		for range 120 {
			s := randomStep(r, w)
			kept := text(w)
			got, e := Do(w, s)
			if text(w) != kept {
				t.Fatalf("%v changed its argument", s)
			}
			want, f := stepOf(w, s)
			if e != f || text(got) != text(want) || !Same(got, want) {
				t.Fatalf("%v: %s, error %d, not %s, error %d", s, text(got), e, text(want), f)
			}
			steps, codes = append(steps, s), append(codes, e)
			if e != api.OK {
				continue
			}
			done[s.Kind]++
			w = got
			if !Valid(w) || !validOf(w) || !Safe(w) {
				t.Fatalf("not safe after %v: %s", s, text(w))
			}
		}
		ran, all, e := Run(offices, steps)
		is(t, "run", ran, e, w)
		if !slices.Equal(all, codes) {
			t.Fatalf("codes %v, not %v", all, codes)
		}
		checkCalm(t, w)
	}
	for kind := 1; kind <= 11; kind++ {
		if done[kind] < 50 {
			t.Errorf("the step %d was done %d times", kind, done[kind])
		}
	}
}

// checkCalm fails unless the treasury knows after Calm what each office has.
func checkCalm(t *testing.T, w api.World) {
	t.Helper()
	kept := text(w)
	calm, e := Calm(w)
	is(t, "calm", calm, e, calmOf(w))
	if text(w) != kept || !Safe(calm) || len(calm.Mail) != 0 {
		t.Fatalf("not calm: %s", text(calm))
	}
	for _, p := range calm.Treasury.Pots {
		_, out, may, used := Sums(calm, p.Code, p.Year)
		said := 0
		for k := range calm.Journals {
			o, _ := Office(calm, k+1)
			r := office.Right(o, p.Code, p.Year)
			if r.Granted != p.Granted[k] || r.Returned != p.Heard[k] || r.Granted-r.Returned-office.Unused(o, p.Code, p.Year) != p.Used[k] {
				t.Fatalf("the treasury does not know of %v: %v", r, p)
			}
			if rights.Wanted(r, p.Used[k]) != 0 {
				t.Fatalf("%d are still wanted of %v", rights.Wanted(r, p.Used[k]), r)
			}
			said += p.Used[k]
		}
		if out != may || used != said {
			t.Fatalf("out %d, may %d, used %d, said %d", out, may, used, said)
		}
	}
}

func TestResultsAreNewMemory(t *testing.T) {
	w := example(t)
	// A list with room behind it must not be grown in place.
	w.Mail = append(w.Mail, api.Message{})[:2]
	w.Journals[0].Records = append(w.Journals[0].Records, api.Op{})[:2]
	kept := text(w)
	calm, _ := Calm(w)
	results := []api.World{calm}
	for _, s := range []api.Step{totalOf(5), askOf(1, 5), tellOf(1), doOf(t, 1, "return 1 12 1"), atOf(api.StepFlush, 1), atOf(api.StepCrash, 2), reportOf(1), mailOf(api.StepDeliver, 0), mailOf(api.StepDeliver, 1), mailOf(api.StepLose, 0), mailOf(api.StepDouble, 0)} {
		results = append(results, after(t, w, s))
	}
	for _, x := range results {
		for _, l := range [][]int{x.Treasury.Pots[0].Granted, x.Treasury.Pots[0].Heard, x.Treasury.Pots[0].Asked, x.Treasury.Pots[0].Used} {
			l[0] = -7
		}
		for _, j := range x.Journals {
			for i := range j.Records {
				j.Records[i].Kind = -7
			}
		}
		for i := range x.Mail {
			x.Mail[i].Year = -7
		}
		if text(w) != kept || w.Mail[:3][2] != (api.Message{}) || w.Journals[0].Records[:3][2] != (api.Op{}) {
			t.Fatal("a result shares its memory")
		}
	}
}
