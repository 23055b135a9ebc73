package rights

import (
	"fmt"
	"math/rand"
	"slices"
	"strings"
	"testing"

	"treasury/api"
)

// The limits are written out here as the document has them, so that a wrong one shows.
const (
	mostTotal   = 1000000000000000
	mostPots    = 60
	mostOffices = 6
)

// potOf returns a pot of one or more offices: what was granted, heard, asked and used of each, one row an office.
func potOf(code string, year, total int, offices ...[4]int) api.Pot {
	p := api.Pot{Code: code, Year: year, Total: total}
	for _, o := range offices {
		p.Granted, p.Heard, p.Asked, p.Used = append(p.Granted, o[0]), append(p.Heard, o[1]), append(p.Asked, o[2]), append(p.Used, o[3])
	}
	return p
}

func treasuryOf(offices int, pots ...api.Pot) api.Treasury {
	return api.Treasury{Offices: offices, Pots: pots}
}

// copyAll returns a treasury in memory of its own.
func copyAll(t api.Treasury) api.Treasury {
	c := api.Treasury{Offices: t.Offices}
	for _, p := range t.Pots {
		p.Granted, p.Heard, p.Asked, p.Used = slices.Clone(p.Granted), slices.Clone(p.Heard), slices.Clone(p.Asked), slices.Clone(p.Used)
		c.Pots = append(c.Pots, p)
	}
	return c
}

// textOf returns a treasury as a text, the same for lists that are nil and empty.
func textOf(t api.Treasury) string {
	var text strings.Builder
	fmt.Fprintln(&text, t.Offices)
	for _, p := range t.Pots {
		fmt.Fprintf(&text, "%q %d %d %v %v %v %v\n", p.Code, p.Year, p.Total, p.Granted, p.Heard, p.Asked, p.Used)
	}
	return text.String()
}

// is fails unless a result is a treasury without an error.
func is(t *testing.T, name string, got api.Treasury, e api.Errno, want api.Treasury) {
	t.Helper()
	if e != api.OK || textOf(got) != textOf(want) {
		t.Errorf("%s: %s, error %d, not %s", name, textOf(got), e, textOf(want))
	}
}

// refused fails unless a result is an error alone.
func refused(t *testing.T, name string, got api.Treasury, e, want api.Errno) {
	t.Helper()
	if e != want || got.Offices != 0 || got.Pots != nil {
		t.Errorf("%s: %s, error %d, not %d", name, textOf(got), e, want)
	}
}

// network is a reference: what the treasury and the offices know of one pot, and the messages that were ever sent. Messages stay, so that they can come late and more than once.
type network struct {
	treasury api.Treasury
	rights   []api.Right
	used     []int
	to, from []api.Message
}

const offices = 3

func newNetwork(total int) network {
	n := network{treasury: treasuryOf(offices), used: make([]int, offices)}
	n.treasury, _ = Set(n.treasury, "1", 12, total)
	for range offices {
		n.rights = append(n.rights, api.Right{Code: "1", Year: 12})
	}
	return n
}

// step does something at random: steps that are refused change nothing.
func (n *network) step(r *rand.Rand) {
	k := r.Intn(offices)
	switch r.Intn(8) {
	case 0:
		n.keep(Set(n.treasury, "1", 12, r.Intn(300)-20))
	case 1:
		n.keep(Grant(n.treasury, k+1, "1", 12, 1+r.Intn(80)))
	case 2:
		n.keep(Ask(n.treasury, k+1, "1", 12, 1+r.Intn(40)))
	case 3:
		m, _ := Tell(n.treasury, k+1, "1", 12)
		n.to = append(n.to, m)
	case 4:
		if len(n.to) > 0 {
			m := n.to[r.Intn(len(n.to))]
			n.rights[m.To-1], _ = Learn(n.rights[m.To-1], m)
		}
	case 5:
		amount := Wanted(n.rights[k], n.used[k])
		if r.Intn(3) == 0 {
			amount = r.Intn(30)
		}
		if next, e := Return(n.rights[k], n.used[k], amount); e == api.OK {
			n.rights[k] = next
		}
		n.from = append(n.from, api.Message{From: k + 1, Code: "1", Year: 12, Returned: n.rights[k].Returned, Used: n.used[k]})
	case 6:
		if len(n.from) > 0 {
			n.keep(Hear(n.treasury, n.from[r.Intn(len(n.from))]))
		}
	case 7:
		n.used[k] = r.Intn(n.rights[k].Granted - n.rights[k].Returned + 1)
	}
}

func (n *network) keep(t api.Treasury, e api.Errno) {
	if e == api.OK {
		n.treasury = t
	}
}
