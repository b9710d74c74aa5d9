package care

import (
	"math"
	"slices"

	"guideway/api"
)

// noArc is the number of an arc that does not exist.
const noArc = -1

// arc leads to a node of a flow; more people than those that it takes already may take it.
type arc struct{ to, more int }

// flow is people who go along arcs from source to outside. The nodes are each room at each time, and these two. Behind each
// arc stands the one that leads back: as many people may be called back as take the arc.
type flow struct {
	rooms           int
	source, outside int
	arcs            []arc
	leaving         [][]int // the numbers of the arcs that leave each node
}

// outBy returns how many people are out by some ticks.
func (c checkedRooms) outBy(ticks int) int {
	return c.flow(ticks).fill()
}

// bestCut returns the cut whose rooms are inside from the time on at which one more could get to them: all ways that lead out
// of the inside are full, and nobody takes one into it. Inside at the end are all rooms, as no way begins there.
func (c checkedRooms) bestCut(ticks int) []int {
	f := c.flow(ticks)
	f.fill()
	arcs := f.arcsTo()
	times := make([]int, len(c.People))
	for room := range times {
		for times[room] < ticks && arcs[f.node(room, times[room])] == noArc {
			times[room]++
		}
	}
	return times
}

// flow returns the flow of some ticks that nobody takes yet.
func (c checkedRooms) flow(ticks int) flow {
	nodes := len(c.People) * (ticks + 1)
	f := flow{rooms: len(c.People), source: nodes, outside: nodes + 1, leaving: make([][]int, nodes+2)}
	for room, people := range c.People {
		f.lay(f.source, f.node(room, 0), people)
	}
	for time := range ticks {
		for room := range c.People {
			f.lay(f.node(room, time), f.node(room, time+1), math.MaxInt) // who stays
		}
		for _, w := range c.Ways {
			f.lay(f.node(w.From, time), f.node(w.To, time+1), w.Most)
		}
	}
	return f
}

// node returns the node of a room at a time, or that of outside.
func (f flow) node(room, time int) int {
	if room == api.CareOut {
		return f.outside
	}
	return time*f.rooms + room
}

func (f *flow) lay(from, to, most int) {
	f.leaving[from] = append(f.leaving[from], len(f.arcs))
	f.leaving[to] = append(f.leaving[to], len(f.arcs)+1)
	f.arcs = append(f.arcs, arc{to, most}, arc{from, 0})
}

// fill lets as many people go as can, by shortest ways, and returns how many get outside.
func (f flow) fill() int {
	people := 0
	for arcs := f.arcsTo(); arcs[f.outside] != noArc; arcs = f.arcsTo() {
		people += f.send(arcs)
	}
	return people
}

// arcsTo returns by which arc each node is got to from the source, if one more goes, noArc if it is not, or is the source.
func (f flow) arcsTo() []int {
	arcs := slices.Repeat([]int{noArc}, len(f.leaving))
	for list := []int{f.source}; len(list) > 0; list = list[1:] {
		for _, number := range f.leaving[list[0]] {
			a := f.arcs[number]
			if a.more > 0 && a.to != f.source && arcs[a.to] == noArc {
				arcs[a.to] = number
				list = append(list, a.to)
			}
		}
	}
	return arcs
}

// send lets as many people go outside as the arcs to it can take, and returns how many.
func (f flow) send(arcs []int) int {
	people := math.MaxInt
	for number := arcs[f.outside]; number != noArc; number = arcs[f.arcs[number^1].to] {
		people = min(people, f.arcs[number].more)
	}
	for number := arcs[f.outside]; number != noArc; number = arcs[f.arcs[number^1].to] {
		f.arcs[number].more -= people
		f.arcs[number^1].more += people
	}
	return people
}
