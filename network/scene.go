package network

import (
	"slices"

	"treasury/api"
	"treasury/journal"
	"treasury/office"
	"treasury/rights"
)

// scene is a valid world in memory of its own, with its offices after all and after the flushed records: so many steps can be done without going through all records again for each.
type scene struct {
	api.World
	now, stable []api.Office
}

// enter returns the scene of a world, and whether the world is valid.
func enter(w api.World) (*scene, bool) {
	if !rights.Valid(w.Treasury) || len(w.Journals) != w.Treasury.Offices || len(w.Mail) > api.MaxMessages {
		return nil, false
	}
	x := &scene{World: copyOf(w)}
	for k, j := range w.Journals {
		now, e := journal.State(j)
		if e != api.OK || j.Office != k+1 {
			return nil, false
		}
		// A journal with a state has a stable one, too.
		stable, _ := journal.Stable(j)
		x.now, x.stable = append(x.now, now), append(x.stable, stable)
		if !x.told(k) || !x.said(k) {
			return nil, false
		}
	}
	if slices.ContainsFunc(w.Mail, func(m api.Message) bool { return !x.possible(m) }) {
		return nil, false
	}
	return x, true
}

// told reports whether all that an office has heard was told by the treasury.
func (x *scene) told(k int) bool {
	for _, r := range x.now[k].Rights {
		p, found := rights.Pot(x.Treasury, r.Code, r.Year)
		if !found || p.Granted[k] < r.Granted || p.Asked[k] < r.Asked {
			return false
		}
	}
	return true
}

// said reports whether all that the treasury has heard of an office was returned by it, and can not be forgotten.
func (x *scene) said(k int) bool {
	for _, p := range x.Treasury.Pots {
		if p.Heard[k] > x.returned(k, p.Code, p.Year) {
			return false
		}
	}
	return true
}

// returned returns what an office has returned, as far as it can not be forgotten.
func (x *scene) returned(k int, code string, year int) int {
	return office.Right(x.stable[k], code, year).Returned
}

// possible reports whether a message says what its sender may have said.
func (x *scene) possible(m api.Message) bool {
	p, found := rights.Pot(x.Treasury, m.Code, m.Year)
	switch {
	case !found:
		return false
	case m.From == 0 && x.has(m.To):
		return within(m.Granted, p.Granted[m.To-1]) && within(m.Asked, p.Asked[m.To-1]) && m.Returned == 0 && m.Used == 0
	case m.To == 0 && x.has(m.From):
		return within(m.Returned, x.returned(m.From-1, m.Code, m.Year)) && within(m.Used, api.MaxTotal) && m.Granted == 0 && m.Asked == 0
	}
	return false
}

// do carries out a step. With an error it changes nothing.
func (x *scene) do(s api.Step) api.Errno {
	switch s.Kind {
	case api.StepTotal:
		return x.keep(rights.Set(x.Treasury, s.Code, s.Year, s.Amount))
	case api.StepGrant:
		return x.keep(rights.Grant(x.Treasury, s.Office, s.Code, s.Year, s.Amount))
	case api.StepAsk:
		return x.keep(rights.Ask(x.Treasury, s.Office, s.Code, s.Year, s.Amount))
	case api.StepTell:
		return x.send(rights.Tell(x.Treasury, s.Office, s.Code, s.Year))
	case api.StepDo, api.StepFlush, api.StepCrash, api.StepReport:
		return x.doAt(s)
	case api.StepDeliver, api.StepLose, api.StepDouble:
		return x.carry(s)
	}
	return api.ErrInvalid
}

// doAt carries out a step at an office.
func (x *scene) doAt(s api.Step) api.Errno {
	if !x.has(s.Office) {
		return api.ErrUnknown
	}
	k := s.Office - 1
	j := &x.Journals[k]
	switch s.Kind {
	case api.StepDo:
		if s.Op.Kind == api.OpHear {
			return api.ErrState
		}
		return x.record(k, s.Op)
	case api.StepReport:
		return x.send(office.Report(x.stable[k], s.Code, s.Year))
	case api.StepFlush:
		j.Flushed, x.stable[k] = len(j.Records), x.now[k]
	case api.StepCrash:
		j.Records, x.now[k] = j.Records[:j.Flushed], x.stable[k]
	}
	return api.OK
}

// carry carries out a step with a message that is on its way.
func (x *scene) carry(s api.Step) api.Errno {
	if s.Index < 0 || s.Index >= len(x.Mail) {
		return api.ErrUnknown
	}
	m := x.Mail[s.Index]
	switch s.Kind {
	case api.StepDouble:
		return x.send(m, api.OK)
	case api.StepDeliver:
		if e := x.arrive(m); e != api.OK {
			return e
		}
	}
	x.Mail = slices.Delete(x.Mail, s.Index, s.Index+1)
	return api.OK
}

// arrive lets a message be heard.
func (x *scene) arrive(m api.Message) api.Errno {
	if m.To == 0 {
		return x.keep(rights.Hear(x.Treasury, m))
	}
	return x.record(m.To-1, api.Op{Kind: api.OpHear, Code: m.Code, Year: m.Year, Granted: m.Granted, AskedBack: m.Asked})
}

// record adds a record to the journal of an office, as journal.Append does, which would go through all its records.
func (x *scene) record(k int, op api.Op) api.Errno {
	j := &x.Journals[k]
	if !journal.Plain(op) {
		return api.ErrInvalid
	}
	o, e := office.Do(x.now[k], op)
	if e != api.OK {
		return e
	}
	if len(j.Records) == api.MaxRecords {
		return api.ErrLimit
	}
	j.Records, x.now[k] = append(j.Records, op), o
	return api.OK
}

// keep makes a treasury that of the world, unless there is an error.
func (x *scene) keep(t api.Treasury, e api.Errno) api.Errno {
	if e == api.OK {
		x.Treasury = t
	}
	return e
}

// send puts a message at the end of the mail, unless there is an error.
func (x *scene) send(m api.Message, e api.Errno) api.Errno {
	if e != api.OK {
		return e
	}
	n := len(x.Mail)
	if n == api.MaxMessages {
		return api.ErrLimit
	}
	mail := make([]api.Message, n+1)
	copy(mail, x.Mail)
	mail[n] = m
	x.Mail = mail
	return api.OK
}

// has reports whether there is an office with a number.
func (x *scene) has(number int) bool { return 1 <= number && number <= x.Treasury.Offices }

// copyOf returns a world in memory of its own.
func copyOf(w api.World) api.World {
	next := api.World{Treasury: api.Treasury{Offices: w.Treasury.Offices}, Mail: slices.Clone(w.Mail)}
	for _, p := range w.Treasury.Pots {
		p.Granted, p.Heard, p.Asked, p.Used = slices.Clone(p.Granted), slices.Clone(p.Heard), slices.Clone(p.Asked), slices.Clone(p.Used)
		next.Treasury.Pots = append(next.Treasury.Pots, p)
	}
	for _, j := range w.Journals {
		j.Records = slices.Clone(j.Records)
		next.Journals = append(next.Journals, j)
	}
	return next
}

// within reports whether n is from 0 to most.
func within(n, most int) bool { return 0 <= n && n <= most }
