package orbit_test

import (
	"cmp"
	"math/rand"
	"slices"
	"testing"

	"perigee/api"
	"perigee/orbit"
)

// never is later than every tick, and adding to it does not overflow.
const never = 1 << 40

// ends returns the nodes that a link connects.
func ends(w api.Window) (int, int) {
	if w.Kind == api.WinContact {
		return w.A, crafts + w.B
	}
	return w.A, w.B
}

// connects tells whether a window is a link over which a message can go from node m to node n.
func connects(w api.Window, m, n int) bool {
	if w.Kind != api.WinContact && w.Kind != api.WinCross || m >= crafts {
		return false
	}
	a, b := ends(w)
	return a == m && b == n || a == n && b == m
}

// takes returns the ticks that a hop takes: the least number in which the link carries all bytes.
func takes(w api.Window, size int) int {
	ticks := size / w.Rate
	for ticks*w.Rate < size {
		ticks++
	}
	return ticks
}

// mayBegin tells whether a hop over a link may begin at a tick.
func mayBegin(w api.Window, size, tick int) bool {
	return w.From <= tick && tick+takes(w, size) <= w.Until
}

// wantEarliest returns the earliest tick at which a message can be at each node, by the chapter's definition: it tries to begin each hop at each tick before last.
func wantEarliest(t []api.Window, craft, tick, size, last int) []int {
	e := slices.Repeat([]int{never}, nodes)
	e[craft] = tick
	for k := tick; k < last; k++ {
		for _, w := range t {
			if w.Rate == 0 || !mayBegin(w, size, k) {
				continue
			}
			for m := range crafts {
				for n := range nodes {
					if e[m] <= k && connects(w, m, n) {
						e[n] = min(e[n], k+takes(w, size))
					}
				}
			}
		}
	}
	return e
}

// wantBefore returns the least node from which a hop, begun as early as possible, ends at a node as early as a message can be there.
func wantBefore(t []api.Window, e []int, node, size, last int) int {
	for m := range crafts {
		for _, w := range t {
			if e[m] == never || !connects(w, m, node) {
				continue
			}
			k := e[m]
			for k < last && !mayBegin(w, size, k) {
				k++
			}
			if k < last && k+takes(w, size) == e[node] {
				return m
			}
		}
	}
	return -1
}

// wantArrival returns what Arrival returns for a table whose windows are open before the tick last only.
func wantArrival(t []api.Window, craft, station, tick, size, last int) (int, []int) {
	e := wantEarliest(t, craft, tick, size, last)
	n := crafts + station
	at := e[n]
	if at == never {
		return 0, nil
	}
	way := []int{n}
	for n != craft {
		n = wantBefore(t, e, n, size, last)
		way = append([]int{n}, way...)
	}
	return at, way
}

// TestArrivalDefinition compares Arrival with the chapter's definition (P9.6) for random tables, crafts, stations, ticks and sizes.
func TestArrivalDefinition(t *testing.T) {
	r := rand.New(rand.NewSource(96))
	hops := map[int]int{}
	for range 1500 {
		const last = 40
		table := someLinks(r, 30, last)
		for range 4 {
			craft, station, tick, size := r.Intn(6), r.Intn(3), r.Intn(10), 1+r.Intn(12)
			at, way := wantArrival(table, craft, station, tick, size, last)
			checkArrival(t, table, craft, station, tick, size, at, way...)
			hops[len(way)]++
		}
	}
	for _, n := range []int{0, 2, 3, 4, 5} {
		if hops[n] < 20 {
			t.Error("the ways are one-sided:", hops)
		}
	}
}

// wideLinks returns a random valid table of links between four crafts and with two stations, with ticks and rates of any size.
func wideLinks(r *rand.Rand) []api.Window {
	var windows []api.Window
	scale := 1 + r.Intn(top/2)
	for range 5 + r.Intn(40) {
		from := r.Intn(scale)
		w := contact(r.Intn(4), r.Intn(2), from, from+1+r.Intn(scale), 1+r.Intn(fastest))
		if r.Intn(2) == 0 {
			a := r.Intn(3)
			w = cross(a, a+1+r.Intn(3-a), w.From, w.Until, w.Rate)
		}
		windows = append(windows, w)
	}
	return sorted(windows...)
}

// passOn returns the earliest tick at which a message that is at node m at a tick can be at node n after one hop.
func passOn(t []api.Window, m, n, tick, size int) int {
	earliest := never
	for _, w := range t {
		if k := max(w.From, tick); connects(w, m, n) && mayBegin(w, size, k) {
			earliest = min(earliest, k+takes(w, size))
		}
	}
	return earliest
}

// overAll returns the earliest tick at which a message that is at node m at a tick can be at node n, over each sequence of the crafts that are left.
func overAll(t []api.Window, m, n, tick, size int, left []int) int {
	earliest := passOn(t, m, n, tick, size)
	for i, c := range left {
		if at := passOn(t, m, c, tick, size); at != never {
			earliest = min(earliest, overAll(t, c, n, at, size, slices.Delete(slices.Clone(left), i, i+1)))
		}
	}
	return earliest
}

// TestArrivalAllWays compares Arrival with the best of all ways without circles (P9.6), and its nodes with what P9.9 says, for random tables with ticks, sizes and rates of the whole range.
func TestArrivalAllWays(t *testing.T) {
	r := rand.New(rand.NewSource(98))
	found := 0
	for range 3000 {
		table := wideLinks(r)
		craft, station, tick, size := r.Intn(4), r.Intn(2), r.Intn(1+r.Intn(top/2)), 1+r.Intn(api.MaxFile)
		left := slices.DeleteFunc([]int{0, 1, 2, 3}, func(c int) bool { return c == craft })
		want := overAll(table, craft, crafts+station, tick, size, left)
		at, way, ok := orbit.Arrival(table, craft, station, tick, size)
		if ok != (want != never) || ok && at != want || !ok && at != 0 {
			t.Errorf("Arrival(%v, %d, %d, %d, %d) = %d, %v, %v, want %d", table, craft, station, tick, size, at, way, ok, want)
		}
		if ok {
			found++
			checkWay(t, table, craft, station, tick, size, at, way)
		}
	}
	if found < 500 || found > 2900 {
		t.Error("the tables are one-sided:", found)
	}
}

// checkWay checks P9.9: the nodes are different, begin with the craft and end with the station, only the last one is a station, and a message that is passed on along them as early as possible arrives at the tick at.
func checkWay(t *testing.T, table []api.Window, craft, station, tick, size, at int, way []int) {
	t.Helper()
	if len(way) < 2 || way[0] != craft || way[len(way)-1] != crafts+station {
		t.Fatalf("a way from craft %d to station %d: %v", craft, station, way)
	}
	seen := map[int]bool{}
	there := tick
	for i, n := range way {
		if seen[n] || (n >= crafts) != (i == len(way)-1) {
			t.Errorf("nodes of a way: %v", way)
		}
		seen[n] = true
		if i > 0 {
			there = passOn(table, way[i-1], n, there, size)
		}
	}
	if there != at {
		t.Errorf("along %v of %v, from tick %d with %d bytes, a message arrives at %d, not at %d", way, table, tick, size, there, at)
	}
}

// TestArrivalWay checks P9.9 for random tables with many ways.
func TestArrivalWay(t *testing.T) {
	r := rand.New(rand.NewSource(99))
	found := 0
	for range 3000 {
		table := someLinks(r, 60, 40)
		craft, station, tick, size := r.Intn(6), r.Intn(3), r.Intn(20), 1+r.Intn(15)
		if at, way, ok := orbit.Arrival(table, craft, station, tick, size); ok {
			found++
			checkWay(t, table, craft, station, tick, size, at, way)
		}
	}
	if found < 1000 {
		t.Error("only", found, "ways")
	}
}

// arrival returns the tick of Arrival; never, if there is no way.
func arrival(t []api.Window, craft, station, tick, size int) int {
	at, _, ok := orbit.Arrival(t, craft, station, tick, size)
	if !ok {
		return never
	}
	return at
}

// TestArrivalBound checks P9.8 for random tables: the message arrives not earlier than after one hop at the greatest rate of all links.
func TestArrivalBound(t *testing.T) {
	r := rand.New(rand.NewSource(981))
	for range 3000 {
		table := someLinks(r, 30, 40)
		craft, station, tick, size := r.Intn(6), r.Intn(3), r.Intn(20), 1+r.Intn(15)
		if len(table) == 0 {
			continue
		}
		greatest := slices.MaxFunc(table, func(v, w api.Window) int { return cmp.Compare(v.Rate, w.Rate) })
		if at := arrival(table, craft, station, tick, size); at < tick+takes(greatest, size) {
			t.Errorf("Arrival(%v, %d, %d, %d, %d) = %d, too early", table, craft, station, tick, size, at)
		}
	}
}

// TestArrivalMonotone checks P9.8 for all ticks and sizes, and for each window that is removed, of random tables: the result does not decrease, where no way counts as never.
func TestArrivalMonotone(t *testing.T) {
	r := rand.New(rand.NewSource(982))
	for range 150 {
		table := someLinks(r, 25, 40)
		craft, station := r.Intn(6), r.Intn(3)
		for tick := range 42 {
			for size := 1; size < 15; size++ {
				at := arrival(table, craft, station, tick, size)
				if arrival(table, craft, station, tick+1, size) < at || arrival(table, craft, station, tick, size+1) < at {
					t.Errorf("Arrival(%v, %d, %d, %d, %d) = %d decreases with the tick or the size", table, craft, station, tick, size, at)
				}
			}
		}
		tick, size := r.Intn(15), 1+r.Intn(10)
		at := arrival(table, craft, station, tick, size)
		for i := range table {
			if arrival(slices.Delete(slices.Clone(table), i, i+1), craft, station, tick, size) < at {
				t.Errorf("Arrival(%v, %d, %d, %d, %d) = %d decreases without window %d", table, craft, station, tick, size, at, i)
			}
		}
	}
}
