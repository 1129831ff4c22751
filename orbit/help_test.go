package orbit_test

import (
	"cmp"
	"math"
	"math/rand"
	"slices"
	"testing"

	"perigee/api"
	"perigee/orbit"
)

const (
	top     = api.MaxTick
	crafts  = api.MaxCraft
	nodes   = api.MaxCraft + api.MaxStations
	regions = 32
	fastest = 1000 // greatest rate
)

// extremes are numbers with which a careless sum or difference overflows, and their neighbours.
var extremes = []int{math.MinInt, math.MinInt + 1, math.MinInt + top, math.MaxInt - top, math.MaxInt - 1, math.MaxInt}

// contact returns a contact window of a craft and a station.
func contact(a, b, from, until, rate int) api.Window {
	return api.Window{Kind: api.WinContact, A: a, B: b, From: from, Until: until, Rate: rate}
}

// cross returns a cross-link window of two crafts.
func cross(a, b, from, until, rate int) api.Window {
	return api.Window{Kind: api.WinCross, A: a, B: b, From: from, Until: until, Rate: rate}
}

// eclipse returns an eclipse window of a craft.
func eclipse(a, from, until int) api.Window {
	return api.Window{Kind: api.WinEclipse, A: a, From: from, Until: until}
}

// place returns an overflight window of a craft and a region.
func place(a, b, from, until int) api.Window {
	return api.Window{Kind: api.WinPlace, A: a, B: b, From: from, Until: until}
}

// example returns the table of the chapter's examples.
func example() []api.Window {
	return []api.Window{contact(0, 0, 10, 20, 10), cross(0, 1, 12, 30, 5), contact(1, 1, 25, 40, 20)}
}

// later compares the places of two windows in a table, by the chapter's definition.
func later(v, w api.Window) int {
	for _, f := range [][2]int{{v.From, w.From}, {v.Kind, w.Kind}, {v.A, w.A}, {v.B, w.B}} {
		if f[0] != f[1] {
			return cmp.Compare(f[0], f[1])
		}
	}
	return 0
}

// sameKey tells whether two windows are of one key.
func sameKey(v, w api.Window) bool {
	return [3]int{v.Kind, v.A, v.B} == [3]int{w.Kind, w.A, w.B}
}

// sorted returns a valid table of some windows: sorted, and without those that overlap an earlier one.
func sorted(windows ...api.Window) []api.Window {
	windows = slices.Clone(windows)
	slices.SortFunc(windows, later)
	var t []api.Window
	for _, w := range windows {
		if !slices.ContainsFunc(t, func(v api.Window) bool { return sameKey(v, w) && v.Until > w.From }) {
			t = append(t, w)
		}
	}
	return t
}

// someWindow returns a random window that is well-formed, of one of few keys, and open at ticks before last only.
func someWindow(r *rand.Rand, last int) api.Window {
	w := api.Window{Kind: 1 + r.Intn(4), A: r.Intn(4), From: r.Intn(last - 1)}
	w.Until = w.From + 1 + r.Intn(min(last-w.From, 1+last/2))
	if w.Kind != api.WinEclipse {
		w.B = r.Intn(3)
	}
	if w.Kind == api.WinCross {
		w.B = w.A + 1 + r.Intn(3)
	}
	if w.Kind == api.WinContact || w.Kind == api.WinCross {
		w.Rate = 1 + r.Intn(5)
	}
	return w
}

// someTable returns a random valid table of at most n windows that are open at ticks before last only.
func someTable(r *rand.Rand, n, last int) []api.Window {
	var windows []api.Window
	for range r.Intn(n + 1) {
		windows = append(windows, someWindow(r, last))
	}
	return sorted(windows...)
}

// someLinks returns a random valid table of at most n links that are open at ticks before last only.
func someLinks(r *rand.Rand, n, last int) []api.Window {
	var windows []api.Window
	for len(windows) < n {
		if w := someWindow(r, last); w.Rate > 0 {
			windows = append(windows, w)
		}
	}
	return sorted(windows[:r.Intn(n+1)]...)
}

// checkErr checks a result of Check.
func checkErr(t *testing.T, table []api.Window, want api.Errno) {
	t.Helper()
	if got := orbit.Check(table); got != want {
		t.Errorf("Check(%v) = %d, want %d", table, got, want)
	}
}

// checkAt checks the results of At.
func checkAt(t *testing.T, table []api.Window, kind, a, b, tick int, want api.Window, found bool) {
	t.Helper()
	if got, ok := orbit.At(table, kind, a, b, tick); got != want || ok != found {
		t.Errorf("At(%v, %d, %d, %d, %d) = %v, %v, want %v, %v", table, kind, a, b, tick, got, ok, want, found)
	}
}

// checkNext checks the results of Next.
func checkNext(t *testing.T, table []api.Window, kind, a, b, tick int, want api.Window, found bool) {
	t.Helper()
	if got, ok := orbit.Next(table, kind, a, b, tick); got != want || ok != found {
		t.Errorf("Next(%v, %d, %d, %d, %d) = %v, %v, want %v, %v", table, kind, a, b, tick, got, ok, want, found)
	}
}

// checkTicks checks a result of Ticks.
func checkTicks(t *testing.T, table []api.Window, kind, a, b, from, until, want int) {
	t.Helper()
	if got := orbit.Ticks(table, kind, a, b, from, until); got != want {
		t.Errorf("Ticks(%v, %d, %d, %d, %d, %d) = %d, want %d", table, kind, a, b, from, until, got, want)
	}
}

// checkPlaces checks a result of Places.
func checkPlaces(t *testing.T, table []api.Window, craft, tick int, want ...int) {
	t.Helper()
	if got := orbit.Places(table, craft, tick); !slices.Equal(got, want) {
		t.Errorf("Places(%v, %d, %d) = %v, want %v", table, craft, tick, got, want)
	}
}

// checkArrival checks the results of Arrival; no nodes mean that there is no way.
func checkArrival(t *testing.T, table []api.Window, craft, station, tick, size, at int, way ...int) {
	t.Helper()
	got, nodes, ok := orbit.Arrival(table, craft, station, tick, size)
	if got != at || !slices.Equal(nodes, way) || ok != (len(way) > 0) {
		t.Errorf("Arrival(%v, %d, %d, %d, %d) = %d, %v, %v, want %d, %v", table, craft, station, tick, size, got, nodes, ok, at, way)
	}
}
