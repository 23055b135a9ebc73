package network

import (
	"fmt"
	"math/rand"
	"slices"
	"strings"
	"testing"

	"treasury/api"
	"treasury/journal"
	"treasury/office"
	"treasury/rights"
)

// The limits are written out here as the document has them, so that a wrong one shows.
const (
	mostTotal    = 1000000000000000
	mostOffices  = 6
	mostMessages = 200
	mostSteps    = 200
	mostRecords  = 400
)

// The year 12 has the days from 4320 to 4679. Where nothing else is said, all is about the code 1 in the year 12.

func totalOf(amount int) api.Step {
	return api.Step{Kind: api.StepTotal, Code: "1", Year: 12, Amount: amount}
}

func grantOf(office, amount int) api.Step {
	return api.Step{Kind: api.StepGrant, Office: office, Code: "1", Year: 12, Amount: amount}
}

func askOf(office, amount int) api.Step {
	return api.Step{Kind: api.StepAsk, Office: office, Code: "1", Year: 12, Amount: amount}
}

func tellOf(office int) api.Step {
	return api.Step{Kind: api.StepTell, Office: office, Code: "1", Year: 12}
}

func reportOf(office int) api.Step {
	return api.Step{Kind: api.StepReport, Office: office, Code: "1", Year: 12}
}

// mailOf returns a step with the message at a place: it is delivered, lost or doubled.
func mailOf(kind, index int) api.Step { return api.Step{Kind: kind, Index: index} }

// atOf returns a step of an office: it flushes or crashes.
func atOf(kind, office int) api.Step { return api.Step{Kind: kind, Office: office} }

// doOf returns the step in which an office does what a text says.
func doOf(t *testing.T, office int, text string) api.Step {
	t.Helper()
	op, e := journal.Parse(text)
	if e != api.OK {
		t.Fatalf("%q is no operation", text)
	}
	return api.Step{Kind: api.StepDo, Office: office, Op: op}
}

// toldOf is a message of the treasury, saidOf one of an office.
func toldOf(office, granted, asked int) api.Message {
	return api.Message{To: office, Code: "1", Year: 12, Granted: granted, Asked: asked}
}

func saidOf(office, returned, used int) api.Message {
	return api.Message{From: office, Code: "1", Year: 12, Returned: returned, Used: used}
}

// after returns the world after steps, which must be possible, from a world on.
func after(t *testing.T, w api.World, steps ...api.Step) api.World {
	t.Helper()
	for _, s := range steps {
		next, e := Do(w, s)
		if e != api.OK {
			t.Fatalf("%v: error %d", s, e)
		}
		w = next
	}
	return w
}

// example is a world in which office 1 has used 50 of 60, of which 10 are asked back, and office 2 has returned 15 of 40 and forgets that it released something if it crashes. Two messages are on their way.
func example(t *testing.T) api.World {
	t.Helper()
	w, _ := New(2)
	return after(t, w, totalOf(100), grantOf(1, 60), grantOf(2, 40), tellOf(1), tellOf(2), mailOf(api.StepDeliver, 0), mailOf(api.StepDeliver, 0),
		doOf(t, 1, "reserve 1 12 4330 50"), doOf(t, 2, "reserve 1 12 4330 20"), doOf(t, 2, "return 1 12 15"), atOf(api.StepFlush, 1), atOf(api.StepFlush, 2), doOf(t, 2, "release 1 5"),
		askOf(1, 10), reportOf(2), tellOf(1))
}

// text returns a world as a text, the same for lists that are nil and empty.
func text(w api.World) string {
	var b strings.Builder
	fmt.Fprintln(&b, "offices", w.Treasury.Offices)
	for _, p := range w.Treasury.Pots {
		fmt.Fprintf(&b, "%q %d: %d, granted %v, heard %v, asked %v, used %v\n", p.Code, p.Year, p.Total, p.Granted, p.Heard, p.Asked, p.Used)
	}
	for _, j := range w.Journals {
		fmt.Fprintln(&b, "journal", j.Office, j.Flushed, j.Records)
	}
	fmt.Fprintln(&b, "mail", w.Mail)
	return b.String()
}

func cloneOf(w api.World) api.World {
	x := api.World{Treasury: api.Treasury{Offices: w.Treasury.Offices}, Mail: slices.Clone(w.Mail)}
	for _, p := range w.Treasury.Pots {
		p.Granted, p.Heard, p.Asked, p.Used = slices.Clone(p.Granted), slices.Clone(p.Heard), slices.Clone(p.Asked), slices.Clone(p.Used)
		x.Treasury.Pots = append(x.Treasury.Pots, p)
	}
	for _, j := range w.Journals {
		x.Journals = append(x.Journals, api.Journal{Office: j.Office, Flushed: j.Flushed, Records: slices.Clone(j.Records)})
	}
	return x
}

// is fails unless a result is a world without an error.
func is(t *testing.T, name string, got api.World, e api.Errno, want api.World) {
	t.Helper()
	if e != api.OK || text(got) != text(want) {
		t.Errorf("%s: %s, error %d, not %s", name, text(got), e, text(want))
	}
}

// refused fails unless a result is an error alone.
func refused(t *testing.T, name string, got api.World, e, want api.Errno) {
	t.Helper()
	if e != want || text(got) != text(api.World{}) {
		t.Errorf("%s: %s, error %d, not %d", name, text(got), e, want)
	}
}

// validOf is a reference: whether a world is valid, read off the chapter.
func validOf(w api.World) bool {
	if !rights.Valid(w.Treasury) || len(w.Journals) != w.Treasury.Offices || len(w.Mail) > mostMessages {
		return false
	}
	for k, j := range w.Journals {
		if !journal.Valid(j) || j.Office != k+1 {
			return false
		}
		now, _ := journal.State(j)
		stable, _ := journal.Stable(j)
		for _, r := range now.Rights {
			p, found := rights.Pot(w.Treasury, r.Code, r.Year)
			if !found || r.Granted > p.Granted[k] || r.Asked > p.Asked[k] {
				return false
			}
		}
		for _, p := range w.Treasury.Pots {
			if p.Heard[k] > office.Right(stable, p.Code, p.Year).Returned {
				return false
			}
		}
	}
	for _, m := range w.Mail {
		p, found := rights.Pot(w.Treasury, m.Code, m.Year)
		if !found || (m.From == 0) == (m.To == 0) || m.From < 0 || m.To < 0 || m.From > w.Treasury.Offices || m.To > w.Treasury.Offices {
			return false
		}
		if m.Granted < 0 || m.Asked < 0 || m.Returned < 0 || m.Used < 0 || m.Used > mostTotal {
			return false
		}
		if m.From == 0 && (m.Granted > p.Granted[m.To-1] || m.Asked > p.Asked[m.To-1] || m.Returned != 0 || m.Used != 0) {
			return false
		}
		if m.To == 0 {
			stable, _ := journal.Stable(w.Journals[m.From-1])
			if m.Granted != 0 || m.Asked != 0 || m.Returned > office.Right(stable, m.Code, m.Year).Returned {
				return false
			}
		}
	}
	return true
}

// stepOf is a reference: what a step makes of a valid world, with the journals as a whole.
func stepOf(w api.World, s api.Step) (api.World, api.Errno) {
	x := cloneOf(w)
	known := s.Office >= 1 && s.Office <= w.Treasury.Offices
	var e api.Errno
	var m api.Message
	switch s.Kind {
	case 1:
		x.Treasury, e = rights.Set(w.Treasury, s.Code, s.Year, s.Amount)
	case 2:
		x.Treasury, e = rights.Grant(w.Treasury, s.Office, s.Code, s.Year, s.Amount)
	case 3:
		x.Treasury, e = rights.Ask(w.Treasury, s.Office, s.Code, s.Year, s.Amount)
	case 4:
		m, e = rights.Tell(w.Treasury, s.Office, s.Code, s.Year)
		x.Mail = append(x.Mail, m)
	case 5:
		switch {
		case !known:
			e = api.ErrUnknown
		case s.Op.Kind == 8:
			e = api.ErrState
		default:
			x.Journals[s.Office-1], e = journal.Append(w.Journals[s.Office-1], s.Op)
		}
	case 6, 7, 8:
		if !known {
			e = api.ErrUnknown
			break
		}
		j := &x.Journals[s.Office-1]
		switch s.Kind {
		case 6:
			*j = journal.Flush(*j)
		case 7:
			*j = journal.Crash(*j)
		case 8:
			stable, _ := journal.Stable(*j)
			m, e = office.Report(stable, s.Code, s.Year)
			x.Mail = append(x.Mail, m)
		}
	case 9, 10, 11:
		if s.Index < 0 || s.Index >= len(w.Mail) {
			e = api.ErrUnknown
			break
		}
		m := w.Mail[s.Index]
		if s.Kind == 11 {
			x.Mail = append(x.Mail, m)
			break
		}
		x.Mail = append(slices.Clone(w.Mail[:s.Index]), w.Mail[s.Index+1:]...)
		if s.Kind == 9 && m.To == 0 {
			x.Treasury, e = rights.Hear(w.Treasury, m)
		} else if s.Kind == 9 {
			x.Journals[m.To-1], e = journal.Append(w.Journals[m.To-1], api.Op{Kind: 8, Code: m.Code, Year: m.Year, Granted: m.Granted, AskedBack: m.Asked})
		}
	default:
		e = api.ErrInvalid
	}
	if e == api.OK && len(x.Mail) > mostMessages {
		e = api.ErrLimit
	}
	if e != api.OK {
		return api.World{}, e
	}
	return x, e
}

// tryOf is a reference: a step that changes nothing if it is not possible.
func tryOf(w api.World, s api.Step) (api.World, bool) {
	if x, e := stepOf(w, s); e == api.OK {
		return x, true
	}
	return w, false
}

// calmOf is a reference: the steps that calm a valid world.
func calmOf(w api.World) api.World {
	var ok bool
	for len(w.Mail) > 0 {
		if w, ok = tryOf(w, api.Step{Kind: 9}); !ok {
			w, _ = tryOf(w, api.Step{Kind: 10})
		}
	}
	pass := func(s api.Step) {
		if w, ok = tryOf(w, s); ok {
			w, _ = tryOf(w, api.Step{Kind: 9, Index: len(w.Mail) - 1})
		}
	}
	for k := range w.Journals {
		for _, p := range w.Treasury.Pots {
			pass(api.Step{Kind: 4, Office: k + 1, Code: p.Code, Year: p.Year})
			o, _ := journal.State(w.Journals[k])
			if op, wanted := office.Answer(o, p.Code, p.Year); wanted {
				w, _ = tryOf(w, api.Step{Kind: 5, Office: k + 1, Op: op})
			}
		}
		w, _ = tryOf(w, api.Step{Kind: 6, Office: k + 1})
		o, _ := journal.State(w.Journals[k])
		for _, p := range w.Treasury.Pots {
			if slices.ContainsFunc(o.Rights, func(r api.Right) bool { return r.Code == p.Code && r.Year == p.Year }) {
				pass(api.Step{Kind: 8, Office: k + 1, Code: p.Code, Year: p.Year})
			}
		}
	}
	return w
}

// randomStep returns a step that is often possible.
func randomStep(r *rand.Rand, w api.World) api.Step {
	s := api.Step{Office: 1 + r.Intn(w.Treasury.Offices), Code: []string{"1", "2.1"}[r.Intn(2)], Year: 12, Amount: 1 + r.Intn(60), Index: r.Intn(len(w.Mail) + 1)}
	switch n := r.Intn(24); {
	case n < 2:
		s.Kind, s.Amount = api.StepTotal, r.Intn(400)-20
	case n < 5:
		s.Kind = api.StepGrant
	case n < 6:
		s.Kind = api.StepAsk
	case n < 9:
		s.Kind = api.StepTell
	case n < 14:
		s.Kind, s.Op = api.StepDo, randomOp(r, s)
		if o, e := Office(w, s.Office); e == api.OK && r.Intn(3) == 0 {
			if op, ok := office.Answer(o, s.Code, 12); ok {
				s.Op = op
			}
		}
	case n < 15:
		s.Kind = api.StepFlush
	case n < 16:
		s.Kind = api.StepCrash
	case n < 18:
		s.Kind = api.StepReport
	case n < 22:
		s.Kind = api.StepDeliver
	case n < 23:
		s.Kind = api.StepLose
	default:
		s.Kind = api.StepDouble
	}
	if r.Intn(60) == 0 {
		s.Office = []int{0, -1, w.Treasury.Offices + 1}[r.Intn(3)]
	}
	return s
}

func randomOp(r *rand.Rand, s api.Step) api.Op {
	switch r.Intn(6) {
	case 0:
		return api.Op{Kind: api.OpCommit, Of: 1 + r.Intn(3), Day: 4500 + r.Intn(100), Amount: s.Amount, Payee: 3, Due: 4600}
	case 1:
		return api.Op{Kind: api.OpRelease, Of: 1 + r.Intn(3), Amount: 1 + s.Amount/4}
	case 2:
		return api.Op{Kind: api.OpReturn, Code: s.Code, Year: 12, Amount: s.Amount}
	case 3:
		return api.Op{Kind: api.OpVerify, Of: 1, Day: 4650, Amount: 1 + s.Amount/4}
	}
	return api.Op{Kind: api.OpReserve, Code: s.Code, Year: 12, Day: 4330, Amount: s.Amount}
}
