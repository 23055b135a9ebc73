package reduction

import (
	"fmt"
	"math/rand"
	"slices"
	"strings"
	"testing"

	"treasury/api"
	"treasury/budget"
	"treasury/journal"
	"treasury/network"
	"treasury/office"
)

// The limits are written out here as the document has them, so that a wrong one shows.
const (
	mostTotal  = 1000000000000000
	mostPots   = 60
	mostAmount = 1000000000000
)

// The year 12 has the days from 4320 to 4679. Where nothing else is said, all is about the code 1 in the year 12.

// potOf returns a pot: what was granted, heard, asked and used of each office, one row an office.
func potOf(code string, year, total int, offices ...[4]int) api.Pot {
	p := api.Pot{Code: code, Year: year, Total: total}
	for _, o := range offices {
		p.Granted, p.Heard, p.Asked, p.Used = append(p.Granted, o[0]), append(p.Heard, o[1]), append(p.Asked, o[2]), append(p.Used, o[3])
	}
	return p
}

func treasuryOf(offices int, pots ...api.Pot) api.Treasury {
	return api.Treasury{Offices: offices, Pots: pots}
}

func copyAll(t api.Treasury) api.Treasury {
	c := api.Treasury{Offices: t.Offices}
	for _, p := range t.Pots {
		p.Granted, p.Heard, p.Asked, p.Used = slices.Clone(p.Granted), slices.Clone(p.Heard), slices.Clone(p.Asked), slices.Clone(p.Used)
		c.Pots = append(c.Pots, p)
	}
	return c
}

// textOf returns a treasury as a text, the same for lists that are nil and empty.
func textOf(t api.Treasury) string {
	var text strings.Builder
	fmt.Fprintln(&text, t.Offices)
	for _, p := range t.Pots {
		fmt.Fprintf(&text, "%q %d %d %v %v %v %v\n", p.Code, p.Year, p.Total, p.Granted, p.Heard, p.Asked, p.Used)
	}
	return text.String()
}

func toldOf(office int, code string, year, granted, asked int) api.Message {
	return api.Message{To: office, Code: code, Year: year, Granted: granted, Asked: asked}
}

// is fails unless a result is a treasury and messages without an error.
func is(t *testing.T, name string, got api.Treasury, messages []api.Message, e api.Errno, want api.Treasury, wanted ...api.Message) {
	t.Helper()
	if e != api.OK || textOf(got) != textOf(want) || !slices.Equal(messages, wanted) {
		t.Errorf("%s: %s, %v, error %d, not %s, %v", name, textOf(got), messages, e, textOf(want), wanted)
	}
}

// refused fails unless a result is an error alone.
func refused(t *testing.T, name string, got api.Treasury, messages []api.Message, e, want api.Errno) {
	t.Helper()
	if e != want || got.Offices != 0 || got.Pots != nil || messages != nil {
		t.Errorf("%s: %s, %v, error %d, not %d", name, textOf(got), messages, e, want)
	}
}

// idleOf is a reference: what an office has asked and open, and idle, as far as the treasury knows.
func idleOf(p api.Pot, k int) (asked, idle int) {
	unused := p.Granted[k] - p.Heard[k] - p.Used[k]
	if unused < 0 {
		unused = 0
	}
	asked = p.Asked[k] - p.Heard[k]
	if asked > unused {
		asked = unused
	}
	if asked < 0 {
		asked = 0
	}
	return asked, unused - asked
}

// planOf is a reference: the plan, taken step by step as the chapter says it.
func planOf(p api.Pot) []int {
	plan := make([]int, len(p.Granted))
	rest := -p.Total
	for k := range plan {
		rest += p.Granted[k] - p.Heard[k]
	}
	rest = max(rest, 0)
	for k := range plan {
		asked, _ := idleOf(p, k)
		rest -= asked
	}
	rest = max(rest, 0)
	taken := map[int]bool{}
	for rest > 0 {
		best, most := -1, 0
		for k := range plan {
			if _, idle := idleOf(p, k); !taken[k] && idle > most {
				best, most = k, idle
			}
		}
		if best < 0 {
			break
		}
		plan[best] = min(most, rest)
		rest -= plan[best]
		taken[best] = true
	}
	return plan
}

// reduceOf is a reference: a pot of a valid treasury that is reduced to a total, with who was asked.
func reduceOf(p api.Pot, total int) (api.Pot, []api.Message) {
	p = copyAll(treasuryOf(1, p)).Pots[0]
	p.Total = total
	var messages []api.Message
	for k, n := range planOf(p) {
		if n > 0 {
			p.Asked[k] = max(p.Asked[k], p.Heard[k]) + n
			messages = append(messages, toldOf(k+1, p.Code, p.Year, p.Granted[k], p.Asked[k]))
		}
	}
	return p, messages
}

// randomPot returns a valid pot.
func randomPot(r *rand.Rand, code string, year, offices int) api.Pot {
	p := potOf(code, year, r.Intn(300)-30)
	for range offices {
		granted := r.Intn(6) * 20
		heard, asked := 0, 0
		if r.Intn(2) == 0 {
			heard = r.Intn(granted + 1)
		}
		if r.Intn(2) == 0 {
			asked = r.Intn(granted + 1)
		}
		p.Granted, p.Heard, p.Asked, p.Used = append(p.Granted, granted), append(p.Heard, heard), append(p.Asked, asked), append(p.Used, r.Intn(6)*10)
	}
	return p
}

// base is a law without lines. Its first day is 4320.
const base = `years 12 2
heading 1 schools
heading 2 roads
heading 2.1 new roads
heading 9 revenue
`

// factsOf returns facts with the base and more articles, separated by semicolons.
func factsOf(t *testing.T, articles string) api.Facts {
	t.Helper()
	l, n, e := budget.Parse(base + strings.ReplaceAll(articles, "; ", "\n"))
	if e != api.OK {
		t.Fatalf("%q is no law: line %d, error %d", articles, n, e)
	}
	return api.Facts{Law: l}
}

// worldOf returns a world of two offices that know what they were granted, and have used a part.
func worldOf(t *testing.T, total int, granted, used [2]int) api.World {
	t.Helper()
	var steps []api.Step
	steps = append(steps, api.Step{Kind: api.StepTotal, Code: "1", Year: 12, Amount: total})
	for k := range granted {
		steps = append(steps, api.Step{Kind: api.StepGrant, Office: k + 1, Code: "1", Year: 12, Amount: granted[k]}, api.Step{Kind: api.StepTell, Office: k + 1, Code: "1", Year: 12}, api.Step{Kind: api.StepDeliver},
			api.Step{Kind: api.StepDo, Office: k + 1, Op: api.Op{Kind: api.OpReserve, Code: "1", Year: 12, Day: 4330, Amount: used[k]}})
	}
	w, codes, e := network.Run(2, steps)
	if e != api.OK || slices.ContainsFunc(codes, func(e api.Errno) bool { return e != api.OK }) {
		t.Fatalf("error %d, codes %v", e, codes)
	}
	return w
}

// randomWorld returns a world after random steps.
func randomWorld(r *rand.Rand) api.World {
	w, _ := network.New(1 + r.Intn(3))
	for range 80 {
		s := api.Step{Kind: 1 + r.Intn(11), Office: 1 + r.Intn(w.Treasury.Offices), Code: []string{"1", "2.1"}[r.Intn(2)], Year: 12, Amount: 1 + r.Intn(90), Index: r.Intn(len(w.Mail) + 1)}
		if s.Kind == api.StepTotal {
			s.Amount = r.Intn(400) - 10
		}
		s.Op = api.Op{Kind: api.OpReserve, Code: s.Code, Year: 12, Day: 4330, Amount: s.Amount}
		switch r.Intn(4) {
		case 0:
			s.Op = api.Op{Kind: api.OpRelease, Of: 1 + r.Intn(3), Amount: 1 + r.Intn(20)}
		case 1:
			s.Op = api.Op{Kind: api.OpReturn, Code: s.Code, Year: 12, Amount: 1 + r.Intn(30)}
		}
		if next, e := network.Do(w, s); e == api.OK {
			w = next
		}
	}
	return w
}

// usedOf is a reference: what the offices of a world have used of a pot together.
func usedOf(w api.World, code string, year int) int {
	used := 0
	for _, j := range w.Journals {
		o, _ := journal.State(j)
		r := office.Right(o, code, year)
		used += r.Granted - r.Returned - office.Unused(o, code, year)
	}
	return used
}
