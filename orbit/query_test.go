package orbit_test

import (
	"math"
	"math/rand"
	"slices"
	"testing"

	"perigee/api"
	"perigee/orbit"
)

// contacts returns a table with three windows of one key, of which the first two touch, among windows of other keys.
func contacts() []api.Window {
	return []api.Window{
		contact(3, 4, 10, 20, 7), contact(3, 5, 10, 30, 1), contact(4, 3, 10, 30, 2), cross(3, 4, 10, 30, 3), place(3, 4, 10, 30), contact(3, 4, 20, 25, 9), contact(3, 4, 40, 41, 8), eclipse(3, 40, 50),
	}
}

// TestAt checks P9.2 at From, Until - 1 and Until of windows that touch, with a gap and of one tick, and far from all windows.
func TestAt(t *testing.T) {
	table := contacts()
	for _, c := range []struct{ tick, window int }{
		{0, -1}, {9, -1}, {10, 0}, {11, 0}, {19, 0}, {20, 5}, {24, 5}, {25, -1}, {39, -1}, {40, 6}, {41, -1}, {top, -1}, {top + 1, -1}, {-1, -1}, {-10, -1}, {math.MinInt, -1}, {math.MaxInt, -1},
	} {
		if c.window < 0 {
			checkAt(t, table, api.WinContact, 3, 4, c.tick, api.Window{}, false)
		} else {
			checkAt(t, table, api.WinContact, 3, 4, c.tick, table[c.window], true)
		}
	}
	full := []api.Window{eclipse(0, 0, top), eclipse(1, top-1, top)}
	for _, tick := range []int{0, 1, top - 2} {
		checkAt(t, full, api.WinEclipse, 0, 0, tick, full[0], true)
		checkAt(t, full, api.WinEclipse, 1, 0, tick, api.Window{}, false)
	}
	checkAt(t, full, api.WinEclipse, 1, 0, top-1, full[1], true)
	checkAt(t, full, api.WinEclipse, 0, 0, top, api.Window{}, false)
	checkAt(t, full, api.WinEclipse, 1, 0, top, api.Window{}, false)
	checkAt(t, nil, api.WinEclipse, 0, 0, 0, api.Window{}, false)
}

// TestAtKeys checks P9.2 for keys that differ in one field, and for keys that have no window.
func TestAtKeys(t *testing.T) {
	table := contacts()
	for _, c := range []struct{ kind, a, b, window int }{
		{api.WinContact, 3, 4, 0}, {api.WinContact, 3, 5, 1}, {api.WinContact, 4, 3, 2}, {api.WinCross, 3, 4, 3}, {api.WinPlace, 3, 4, 4},
		{api.WinCross, 4, 3, -1}, {api.WinEclipse, 3, 4, -1}, {api.WinEclipse, 3, 0, -1}, {api.WinContact, 3, 0, -1}, {api.WinContact, 0, 4, -1}, {0, 0, 0, -1}, {0, 3, 4, -1}, {5, 3, 4, -1}, {-1, -1, -1, -1}, {api.WinContact, 3, 16, -1}, {api.WinContact, math.MinInt, math.MaxInt, -1}, {math.MaxInt, 3, 4, -1},
	} {
		if c.window < 0 {
			checkAt(t, table, c.kind, c.a, c.b, 15, api.Window{}, false)
			checkNext(t, table, c.kind, c.a, c.b, 50, api.Window{}, false)
			checkTicks(t, table, c.kind, c.a, c.b, 0, 30, 0)
		} else {
			checkAt(t, table, c.kind, c.a, c.b, 15, table[c.window], true)
			checkNext(t, table, c.kind, c.a, c.b, 0, table[c.window], true)
		}
	}
}

// TestNext checks P9.3 at From, Until - 1 and Until of windows that touch, with a gap and of one tick, and far from all windows.
func TestNext(t *testing.T) {
	table := contacts()
	for _, c := range []struct{ tick, window int }{
		{math.MinInt, 0}, {-1, 0}, {0, 0}, {9, 0}, {10, 0}, {19, 0}, {20, 5}, {24, 5}, {25, 6}, {39, 6}, {40, 6}, {41, -1}, {42, -1}, {top, -1}, {math.MaxInt, -1},
	} {
		if c.window < 0 {
			checkNext(t, table, api.WinContact, 3, 4, c.tick, api.Window{}, false)
		} else {
			checkNext(t, table, api.WinContact, 3, 4, c.tick, table[c.window], true)
		}
	}
	checkNext(t, table, api.WinEclipse, 3, 0, 0, table[7], true)
	checkNext(t, table, api.WinEclipse, 3, 0, 49, table[7], true)
	checkNext(t, table, api.WinEclipse, 3, 0, 50, api.Window{}, false)
	checkNext(t, nil, api.WinContact, 3, 4, 0, api.Window{}, false)
	last := []api.Window{place(3, 4, 0, 1), place(3, 4, top-1, top)}
	checkNext(t, last, api.WinPlace, 3, 4, 0, last[0], true)
	checkNext(t, last, api.WinPlace, 3, 4, 1, last[1], true)
	checkNext(t, last, api.WinPlace, 3, 4, top-1, last[1], true)
	checkNext(t, last, api.WinPlace, 3, 4, top, api.Window{}, false)
}

// TestTicks checks P9.4 for the chapter's example and for periods that begin and end before, in, between and after windows.
func TestTicks(t *testing.T) {
	checkTicks(t, example(), api.WinContact, 0, 0, 15, 100, 5)
	table := contacts()
	for _, c := range []struct{ from, until, want int }{
		{0, 100, 16}, {10, 41, 16}, {11, 41, 15}, {10, 40, 15}, {9, 42, 16}, {0, 10, 0}, {0, 11, 1}, {19, 20, 1}, {20, 21, 1}, {19, 21, 2}, {24, 26, 1}, {25, 40, 0}, {25, 41, 1}, {12, 15, 3}, {12, 23, 11}, {12, 40, 13}, {40, 41, 1}, {41, 100, 0}, {5, 5, 0}, {15, 15, 0},
		{15, 14, 0}, {100, 0, 0}, {41, 10, 0}, {20, 10, 0}, {-50, -10, 0}, {-50, 12, 2}, {top, top + 9, 0},
	} {
		checkTicks(t, table, api.WinContact, 3, 4, c.from, c.until, c.want)
	}
	checkTicks(t, nil, api.WinContact, 3, 4, 0, top, 0)
	checkTicks(t, []api.Window{place(1, 2, 0, top)}, api.WinPlace, 1, 2, 0, top, top)
	checkTicks(t, []api.Window{place(1, 2, 0, top)}, api.WinPlace, 1, 2, -1, top+1, top)
	checkTicks(t, []api.Window{place(1, 2, 0, top)}, api.WinPlace, 1, 2, 1, top-1, top-2)
}

// TestTicksExtremes checks P9.4 for periods whose ends are close to the least and the greatest numbers.
func TestTicksExtremes(t *testing.T) {
	table := contacts()
	low, high := extremes[:3], extremes[3:]
	for _, from := range low {
		for _, until := range high {
			checkTicks(t, table, api.WinContact, 3, 4, from, until, 16)
			checkTicks(t, table, api.WinContact, 3, 4, until, from, 0)
			checkTicks(t, table, api.WinContact, 3, 4, from, 12, 2)
			checkTicks(t, table, api.WinContact, 3, 4, 12, until, 14)
			checkTicks(t, table, api.WinContact, 3, 4, 12, from, 0)
			checkTicks(t, table, api.WinContact, 3, 4, until, 12, 0)
		}
	}
	for _, ends := range [][]int{low, high} {
		for _, from := range ends {
			for _, until := range ends {
				checkTicks(t, table, api.WinContact, 3, 4, from, until, 0)
			}
		}
	}
}

// TestPlaces checks P9.5: regions in increasing order, whatever the order of their windows in the table is, only of the craft, only of the kind WinPlace, and at From, Until - 1 and Until.
func TestPlaces(t *testing.T) {
	table := []api.Window{contact(1, 2, 4, 30, 1), eclipse(1, 5, 30), place(1, 31, 5, 20), place(1, 9, 6, 12), place(2, 3, 6, 12), place(1, 0, 8, 15), place(1, 10, 10, 11), place(1, 9, 12, 18)}
	checkErr(t, table, api.OK)
	for _, c := range []struct {
		tick int
		want []int
	}{
		{4, nil}, {5, []int{31}}, {6, []int{9, 31}}, {8, []int{0, 9, 31}}, {10, []int{0, 9, 10, 31}}, {11, []int{0, 9, 31}}, {12, []int{0, 9, 31}}, {14, []int{0, 9, 31}}, {15, []int{9, 31}}, {18, []int{31}}, {19, []int{31}}, {20, nil}, {-1, nil}, {top, nil}, {math.MinInt, nil}, {math.MaxInt, nil},
	} {
		checkPlaces(t, table, 1, c.tick, c.want...)
	}
	checkPlaces(t, table, 2, 6, 3)
	checkPlaces(t, table, 2, 12)
	checkPlaces(t, table, 0, 10)
	checkPlaces(t, table, -1, 10)
	checkPlaces(t, table, 12, 10)
	checkPlaces(t, table, math.MaxInt, 10)
	checkPlaces(t, nil, 0, 0)
}

// TestPlacesOrder checks P9.5 for all orders in which four regions can begin, and for all regions at once.
func TestPlacesOrder(t *testing.T) {
	for n := range 4 * 4 * 4 * 4 {
		begins := []int{n % 4, n / 4 % 4, n / 16 % 4, n / 64}
		table := sorted(place(5, 2, begins[0], 9), place(5, 3, begins[1], 9), place(5, 11, begins[2], 9), place(5, 20, begins[3], 9))
		checkPlaces(t, table, 5, 3, 2, 3, 11, 20)
		checkPlaces(t, table, 5, 8, 2, 3, 11, 20)
		checkPlaces(t, table, 5, 9)
	}
	var table []api.Window
	var all []int
	for i := range regions {
		table = append(table, place(0, i, 500-i, 501+i))
		all = append(all, i)
	}
	checkPlaces(t, sorted(table...), 0, 500, all...)
	checkPlaces(t, sorted(table...), 0, 501, all[1:]...)
	checkPlaces(t, sorted(table...), 0, 499, all[1:]...)
}

// TestQueriesDefinition compares At, Next, Ticks and Places with the chapter's definitions (P9.2 to P9.5) for random tables, keys and ticks.
func TestQueriesDefinition(t *testing.T) {
	r := rand.New(rand.NewSource(92))
	for range 4000 {
		table := someTable(r, 30, 50)
		for range 5 {
			kind, a, b, tick := r.Intn(6), r.Intn(6)-1, r.Intn(6)-1, r.Intn(60)-5
			if len(table) > 0 && r.Intn(2) == 0 {
				w := table[r.Intn(len(table))]
				kind, a, b = w.Kind, w.A, w.B
			}
			w, found := wantAt(table, kind, a, b, tick)
			checkAt(t, table, kind, a, b, tick, w, found)
			w, found = wantNext(table, kind, a, b, tick)
			checkNext(t, table, kind, a, b, tick, w, found)
			until := r.Intn(70) - 10
			checkTicks(t, table, kind, a, b, tick, until, wantTicks(table, kind, a, b, tick, until))
			checkPlaces(t, table, a, tick, wantPlaces(table, a, tick)...)
		}
	}
}

// wantAt returns what At returns: of all windows, the only one that fits.
func wantAt(t []api.Window, kind, a, b, tick int) (api.Window, bool) {
	var found []api.Window
	for _, w := range t {
		if sameKey(w, api.Window{Kind: kind, A: a, B: b}) && w.From <= tick && tick <= w.Until-1 {
			found = append(found, w)
		}
	}
	if len(found) != 1 {
		return api.Window{}, false
	}
	return found[0], true
}

// wantNext returns what Next returns: of all windows that fit, the one with the least From.
func wantNext(t []api.Window, kind, a, b, tick int) (api.Window, bool) {
	var found []api.Window
	for _, w := range t {
		if sameKey(w, api.Window{Kind: kind, A: a, B: b}) && w.Until > tick {
			found = append(found, w)
		}
	}
	if len(found) == 0 {
		return api.Window{}, false
	}
	return slices.MinFunc(found, later), true
}

// wantTicks returns what Ticks returns: it tries each tick.
func wantTicks(t []api.Window, kind, a, b, from, until int) int {
	n := 0
	for tick := from; tick < until; tick++ {
		if _, found := wantAt(t, kind, a, b, tick); found {
			n++
		}
	}
	return n
}

// wantPlaces returns what Places returns: it tries each region.
func wantPlaces(t []api.Window, craft, tick int) []int {
	var places []int
	for region := range regions {
		if _, found := wantAt(t, api.WinPlace, craft, region, tick); found {
			places = append(places, region)
		}
	}
	return places
}

// TestKeyProperties checks P9.7 for all ticks of random tables: a tick is in at most one window of a key, the ticks of adjacent periods add up, and Next returns the window that At returns.
func TestKeyProperties(t *testing.T) {
	r := rand.New(rand.NewSource(97))
	for range 300 {
		table := someTable(r, 40, 40)
		for _, key := range table {
			checkKey(t, table, key.Kind, key.A, key.B)
			middle := r.Intn(40)
			from, until := middle-r.Intn(45), middle+r.Intn(45)
			parts := orbit.Ticks(table, key.Kind, key.A, key.B, from, middle) + orbit.Ticks(table, key.Kind, key.A, key.B, middle, until)
			checkTicks(t, table, key.Kind, key.A, key.B, from, until, parts)
		}
	}
}

// checkKey checks what P9.7 says of single ticks.
func checkKey(t *testing.T, table []api.Window, kind, a, b int) {
	t.Helper()
	for tick := -2; tick < 45; tick++ {
		in := 0
		for _, w := range table {
			if sameKey(w, api.Window{Kind: kind, A: a, B: b}) && w.From <= tick && tick < w.Until {
				in++
			}
		}
		if in > 1 {
			t.Errorf("tick %d is in %d windows of a key of %v", tick, in, table)
		}
		checkTicks(t, table, kind, a, b, tick, tick+1, in)
		w, found := orbit.At(table, kind, a, b, tick)
		if found != (in == 1) {
			t.Errorf("At(%v, %d, %d, %d, %d) = %v, %v, but %d windows are open", table, kind, a, b, tick, w, found, in)
		}
		if found {
			checkNext(t, table, kind, a, b, tick, w, true)
		}
	}
}
