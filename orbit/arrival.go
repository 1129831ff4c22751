package orbit

import (
	"iter"
	"slices"

	"perigee/api"
)

const (
	nodes = api.MaxCraft + api.MaxStations
	never = api.MaxTick + 1 // a tick at which no window is open any more
)

// hop is a hop of a message from a node to another one.
type hop struct {
	from, to int
	link     api.Window
}

// Arrival returns the earliest tick at which a message can be at a station, and the nodes on the way.
func Arrival(t []api.Window, craft, station, tick, size int) (int, []int, bool) {
	// Hops of no bytes would take no time, and the search for the way back could go round in a circle.
	if !isBelow(craft, api.MaxCraft) || !isBelow(station, api.MaxStations) || size < 1 {
		return 0, nil, false
	}
	at := earliest(t, craft, tick, size)
	end := api.MaxCraft + station
	if at[end] == never {
		return 0, nil, false
	}
	return at[end], way(t, at, craft, end, size), true
}

// earliest returns, for each node, the earliest tick at which a message that is at a craft at a tick can be there.
func earliest(t []api.Window, craft, tick, size int) [nodes]int {
	var at [nodes]int
	for n := range at {
		at[n] = never
	}
	at[craft] = tick
	for changed := true; changed; {
		changed = false
		for h := range hops(t) {
			if end := h.end(at[h.from], size); end < at[h.to] {
				at[h.to] = end
				changed = true
			}
		}
	}
	return at
}

// hops returns an iterator over the hops that the links of a table permit.
func hops(t []api.Window) iter.Seq[hop] {
	return func(yield func(hop) bool) {
		for w := range where(t, isLink) {
			there, back := hop{w.A, farEnd(w), w}, hop{farEnd(w), w.A, w}
			// A message that is at a station is not passed on.
			if !yield(there) || back.from < api.MaxCraft && !yield(back) {
				return
			}
		}
	}
}

// isLink tells whether a window is a link. A link that is not well-formed is none: its ends may not be nodes, and its rate may be 0.
func isLink(w api.Window) bool {
	return (w.Kind == api.WinContact || w.Kind == api.WinCross) && !malformed(w)
}

// farEnd returns the node at the other end of a link from craft A.
func farEnd(w api.Window) int {
	if w.Kind == api.WinContact {
		return api.MaxCraft + w.B
	}
	return w.B
}

// end returns the tick at which the hop of a message ends if it begins as early as possible, at tick or later, or never.
func (h hop) end(tick, size int) int {
	t := (size-1)/h.link.Rate + 1
	begin := max(h.link.From, tick)
	if begin > h.link.Until-t {
		return never
	}
	return begin + t
}

// way returns the nodes of a way from a craft to the node end on which a message is at each node as early as possible.
func way(t []api.Window, at [nodes]int, craft, end, size int) []int {
	way := []int{end}
	for n := end; n != craft; {
		n = before(t, at, n, size)
		way = append(way, n)
	}
	slices.Reverse(way)
	return way
}

// before returns the least node from which a message can be passed on to a node so that it is there as early as possible.
func before(t []api.Window, at [nodes]int, node, size int) int {
	least := nodes
	for h := range hops(t) {
		if h.to == node && h.end(at[h.from], size) == at[node] {
			least = min(least, h.from)
		}
	}
	return least
}
