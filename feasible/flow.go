package feasible

import (
	"math"

	"treasury/api"
)

// pipe leads to a place and can carry so much more; the pipe beside it (0 and 1, 2 and 3, and so on) leads back and can carry what was sent.
type pipe struct{ to, left int }

// pipes are laid between places. What the arcs of a network must carry is sent ahead: it is missing at one place and there are too many of it at another one, so that a source brings it and a sink takes it.
type pipes struct {
	source, sink int
	all          []pipe
	away         [][]int // the numbers of the pipes that lead away from each place
	level        []int   // how many pipes each place is from the source, far if it is not reached
	next         []int   // how many of the pipes away from each place are used up
}

const far = -1

// circulate returns a flow that meets the network of a law; if there is none, a right witness for it, which is not empty, in place of the flow.
func circulate(n api.Net) (flow, cut []int) {
	p := newPipes(n.Places)
	extra := make([]int, n.Places)
	for _, a := range n.Arcs {
		p.lay(a.From, a.To, a.High-a.Low)
		extra[a.To] += a.Low
		extra[a.From] -= a.Low
	}
	missing := 0
	for place, more := range extra {
		if more > 0 {
			p.lay(p.source, place, more)
			missing += more
		} else {
			p.lay(place, p.sink, -more)
		}
	}
	if p.send() < missing {
		return nil, p.cut(n.Places)
	}
	for i, a := range n.Arcs {
		flow = append(flow, a.Low+p.all[2*i+1].left)
	}
	return flow, nil
}

// newPipes returns places without pipes: those of a network, the source and the sink.
func newPipes(places int) *pipes {
	all := places + 2
	return &pipes{source: places, sink: places + 1, away: make([][]int, all), level: make([]int, all), next: make([]int, all)}
}

// lay lays a pipe and the one that leads back.
func (p *pipes) lay(from, to, most int) {
	p.away[from] = append(p.away[from], len(p.all))
	p.away[to] = append(p.away[to], len(p.all)+1)
	p.all = append(p.all, pipe{to, most}, pipe{from, 0})
}

// send sends as much as possible from the source to the sink, by the shortest ways first, and returns how much it is. The ways get longer with each survey, so that there are not more surveys than places.
func (p *pipes) send() int {
	sum := 0
	for p.survey() {
		for sent := p.push(p.source, math.MaxInt); sent > 0; sent = p.push(p.source, math.MaxInt) {
			sum += sent
		}
	}
	return sum
}

// survey measures how far the places are, and reports whether the sink can be reached.
func (p *pipes) survey() bool {
	for i := range p.level {
		p.level[i], p.next[i] = far, 0
	}
	p.level[p.source] = 0
	reached := []int{p.source}
	for len(reached) > 0 {
		place := reached[0]
		reached = reached[1:]
		for _, k := range p.away[place] {
			if x := p.all[k]; x.left > 0 && p.level[x.to] == far {
				p.level[x.to] = p.level[place] + 1
				reached = append(reached, x.to)
			}
		}
	}
	return p.level[p.sink] != far
}

// push sends at most so much from a place to the sink, by one way along which each pipe leads further, and returns how much it is.
func (p *pipes) push(place, most int) int {
	if place == p.sink {
		return most
	}
	for p.next[place] < len(p.away[place]) {
		k := p.away[place][p.next[place]]
		if x := p.all[k]; x.left > 0 && p.level[x.to] == p.level[place]+1 {
			if sent := p.push(x.to, min(most, x.left)); sent > 0 {
				p.all[k].left -= sent
				p.all[k^1].left += sent
				return sent
			}
		}
		p.next[place]++
	}
	return 0
}

// cut returns the places of the network that cannot be reached any more: as all pipes to them are full, and none of those from them carries more than it must, less can flow into them than has to flow out.
func (p *pipes) cut(places int) []int {
	var cut []int
	for place := range places {
		if p.level[place] == far {
			cut = append(cut, place)
		}
	}
	return cut
}
