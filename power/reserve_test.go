package power_test

import (
	"math/rand"
	"testing"

	"perigee/api"
	"perigee/power"
)

// TestReserveExample checks P10.4 for the chapter's example 2, and for the one of the whole document.
func TestReserveExample(t *testing.T) {
	w := table(t, eclipse(0, 10, 14))
	for tick, want := range []int{0, 0, 0, 0, 2, 5, 8, 11, 14, 17, 20, 15, 10, 5, 0, 0, 0} {
		checkReserve(t, w, 0, tick, 5, 8, want)
	}
	w = table(t, eclipse(0, 10, 20))
	for tick, want := range map[int]int{10: 30, 9: 23, 5: 0, 6: 2, 0: 0, 19: 3, 20: 0} {
		checkReserve(t, w, 0, tick, 3, 10, want)
	}
}

// TestReserveEclipses checks P10.4 before, in, between and after eclipses, on the ticks at which they begin and end, and beyond the end of the table.
func TestReserveEclipses(t *testing.T) {
	w := table(t, eclipse(4, 10, 14), eclipse(4, 16, 20), eclipse(4, 20, 22), contact(4, 30, 32))
	for tick, want := range map[int]int{0: 14, 8: 38, 9: 41, 10: 44, 11: 39, 13: 29, 14: 24, 15: 27, 16: 30, 17: 25, 19: 15, 20: 10, 21: 5, 22: 0, 25: 0, 31: 0, 32: 0, 33: 0, top: 0, top + 1: 0} {
		checkReserve(t, w, 4, tick, 5, 8, want)
	}
	// More sun between the eclipses gives a part of what the later ones take, and then all of it.
	for tick, want := range map[int]int{0: 0, 6: 0, 7: 5, 8: 14, 9: 23, 10: 32, 13: 17, 14: 12, 15: 21, 16: 30} {
		checkReserve(t, w, 4, tick, 5, 14, want)
	}
	for tick, want := range map[int]int{0: 0, 8: 0, 9: 5, 10: 20, 13: 5, 14: 0, 15: 15, 16: 30} {
		checkReserve(t, w, 4, tick, 5, 20, want)
	}
	// An eclipse from the beginning to the end of the table.
	w = table(t, eclipse(4, 0, 9))
	for tick, want := range []int{45, 40, 35, 30, 25, 20, 15, 10, 5, 0, 0, 0} {
		checkReserve(t, w, 4, tick, 5, 8, want)
		checkReserve(t, w, 4, tick, 5, 0, want)
		checkReserve(t, w, 4, tick, 5, most, want)
	}
}

// TestReserveEnd checks P10.4 for the end of the table: that of all windows, of any kind and of any craft, the last one in the table or not.
func TestReserveEnd(t *testing.T) {
	for _, last := range []api.Window{contact(0, 3, 50), cross(0, 3, 50), place(0, 3, 50), eclipse(7, 3, 50), contact(7, 3, 50), contact(0, 49, 50), eclipse(7, 0, 50)} {
		w := table(t, eclipse(0, 10, 14), last)
		for tick, want := range map[int]int{0: 158, 10: 128, 14: 108, 48: 6, 49: 3, 50: 0, 51: 0, top + 1: 0} {
			checkReserve(t, w, 0, tick, 5, 2, want)
		}
		for tick, want := range map[int]int{0: 0, 9: 17, 10: 20, 13: 5, 14: 0, 49: 0, 50: 0} {
			checkReserve(t, w, 0, tick, 5, 8, want)
		}
	}
	for _, tick := range []int{0, 1, 1000, top, top + 1} {
		checkReserve(t, nil, 0, tick, most, 0, 0)
		checkReserve(t, []api.Window{}, 0, tick, 5, 8, 0)
	}
	w := table(t, eclipse(0, top-1, top))
	for tick, want := range map[int]int{0: 0, top - 3: 0, top - 2: 2, top - 1: 5, top: 0, top + 1: 0} {
		checkReserve(t, w, 0, tick, 5, 8, want)
	}
}

// TestReserveOthers checks P10.4 for eclipses of other crafts, windows of other kinds, and crafts that do not exist: they make no shadow.
func TestReserveOthers(t *testing.T) {
	w := table(t, eclipse(1, 0, 40), contact(0, 0, 40), cross(0, 0, 40), place(0, 0, 40), eclipse(11, 5, 9), eclipse(3, 12, 13))
	for _, craft := range append([]int{0, 2, 10, -1, 12, 13, -11, top}, extremes...) {
		checkReserve(t, w, craft, 0, 5, 5, 0)
		checkReserve(t, w, craft, 0, 5, 4, 40)
		checkReserve(t, w, craft, 39, 5, 0, 5)
		checkReserve(t, w, craft, 40, 5, 0, 0)
	}
	checkReserve(t, w, 1, 0, 5, 5, 200)
	checkReserve(t, w, 1, 7, 5, 1000, 165)
	checkReserve(t, w, 11, 0, 5, 7, 10)
	checkReserve(t, w, 11, 8, 5, 7, 5)
	checkReserve(t, w, 11, 9, 5, 7, 0)
	checkReserve(t, w, 3, 12, 5, 5, 5)
	checkReserve(t, w, 3, 13, 5, 5, 0)
}

// TestReserveSun checks P10.4 for sun less than, equal to and greater than the power of the essential loads, which may be 0.
func TestReserveSun(t *testing.T) {
	w := table(t, eclipse(0, 10, 20), eclipse(0, 30, 40), contact(0, 10, 50))
	for _, c := range []struct{ essential, sun, at0, at10, at25, at40 int }{
		{5, 0, 250, 200, 125, 50}, {5, 4, 130, 120, 65, 10}, {5, 5, 100, 100, 50, 0}, {5, 6, 80, 90, 45, 0}, {5, 9, 20, 60, 30, 0}, {5, 10, 0, 50, 25, 0}, {5, 11, 0, 50, 20, 0}, {5, most, 0, 50, 0, 0}, {0, 0, 0, 0, 0, 0}, {0, 5, 0, 0, 0, 0}, {0, most, 0, 0, 0, 0},
	} {
		checkReserve(t, w, 0, 0, c.essential, c.sun, c.at0)
		checkReserve(t, w, 0, 10, c.essential, c.sun, c.at10)
		checkReserve(t, w, 0, 25, c.essential, c.sun, c.at25)
		checkReserve(t, w, 0, 40, c.essential, c.sun, c.at40)
	}
}

// TestReserveGreatest checks P10.4 for the greatest powers and ticks.
func TestReserveGreatest(t *testing.T) {
	w := table(t, eclipse(0, 0, top))
	checkReserve(t, w, 0, 0, most, most, most*top)
	checkReserve(t, w, 0, 1, most, 0, most*(top-1))
	checkReserve(t, w, 0, top-1, most, 0, most)
	checkReserve(t, w, 0, top, most, 0, 0)
	checkReserve(t, w, 1, 0, most, 0, most*top)
	checkReserve(t, w, 1, 0, most, most-1, top)
	checkReserve(t, w, 1, 0, most, most, 0)
	w = table(t, eclipse(0, top/2, top))
	checkReserve(t, w, 0, 0, most, most-1, most*(top/2)+top/2)
	checkReserve(t, w, 0, 0, most-1, most, (most-1)*(top/2)-top/2)
	checkReserve(t, w, 0, 0, 1, most, 0)
	checkReserve(t, w, 0, top/2-1, most/2, most, most/2*(top/2)-(most-most/2))
}

// checkNeeds compares Reserve with the chapter's definition for some ticks of a table, the last ones among them, and returns how many needs are not 0.
func checkNeeds(t *testing.T, r *rand.Rand, w []api.Window, craft, essential, sun, ticks int) int {
	t.Helper()
	needs := wantNeeds(w, craft, essential, sun)
	positive := 0
	for i := range ticks {
		tick := len(needs) - 1 - i
		if i > 8 {
			tick = r.Intn(len(needs))
		}
		if tick >= 0 {
			checkReserve(t, w, craft, tick, essential, sun, needs[tick])
			positive += min(needs[tick], 1)
		}
	}
	return positive
}

// TestReserveDefinition compares Reserve with the chapter's definition (P10.4) for random small tables.
func TestReserveDefinition(t *testing.T) {
	r := rand.New(rand.NewSource(104))
	positive := 0
	for range 5000 {
		w := someTable(r, 30, 60)
		positive += checkNeeds(t, r, w, r.Intn(5)-1, r.Intn(9), r.Intn(14), 30)
	}
	if positive < 30000 || positive > 120000 {
		t.Errorf("the needs are one-sided: %d of 150000 are not 0", positive)
	}
}

// TestReserveWide compares Reserve with the chapter's definition (P10.4) for random tables of any length and numbers of any size.
func TestReserveWide(t *testing.T) {
	r := rand.New(rand.NewSource(1040))
	positive := 0
	for range 40 {
		w := someTable(r, api.MaxWindows, 1000+r.Intn(top-1000))
		essential := upTo(r, most)
		sun := essential + upTo(r, most-essential)
		positive += checkNeeds(t, r, w, r.Intn(3), essential, sun, 60)
	}
	if positive < 400 {
		t.Errorf("the needs are one-sided: %d of 2400 are not 0", positive)
	}
}

// wantDeficit returns the greatest deficit from a tick to the end of a table.
func wantDeficit(w []api.Window, craft, tick, essential, sun int) int {
	greatest, taken, gained := 0, 0, 0
	end := wantEnd(w)
	all := gains(w, craft, end, sun)
	for k := tick; k < end; k++ {
		taken += essential
		gained += all[k]
		greatest = max(greatest, taken-gained)
	}
	return greatest
}

// TestDeficit checks P10.12 for random tables and all their ticks: the need is the greatest deficit.
func TestDeficit(t *testing.T) {
	r := rand.New(rand.NewSource(112))
	for range 2000 {
		w := someTable(r, 20, 50)
		craft, essential, sun := r.Intn(3), upTo(r, 20), upTo(r, 30)
		for tick := range wantEnd(w) + 3 {
			checkReserve(t, w, craft, tick, essential, sun, wantDeficit(w, craft, tick, essential, sun))
		}
	}
}

// TestLeastCharge checks P10.8 for random tables and ticks before their ends: with less charge than the need a battery does not survive until the end, whatever its Capacity is; with the need it does if its Capacity suffices.
func TestLeastCharge(t *testing.T) {
	r := rand.New(rand.NewSource(108))
	short, exact := 0, 0
	for range 20000 {
		w := someTable(r, 20, 50)
		end := wantEnd(w)
		if end == 0 {
			continue
		}
		craft, tick, essential, sun := r.Intn(3), r.Intn(end), r.Intn(9), r.Intn(14)
		need := power.Reserve(w, craft, tick, essential, sun)
		if need > 0 {
			short++
			charge := need - 1 - r.Intn(min(need, 3))
			checkSurvives(t, battery(charge+r.Intn(500), charge, 0), w, craft, tick, end, essential, sun, false)
			checkSurvives(t, battery(most, charge, 0), w, craft, tick, end, essential, sun, false)
		}
		suffices := max(need, essential+greatestNeed(w, craft, tick+1, essential, sun))
		checkSurvives(t, battery(suffices, need, 0), w, craft, tick, end, essential, sun, true)
		exact += min(need, suffices-need, 1)
		charge := need + r.Intn(suffices-need+3)
		checkSurvives(t, battery(max(charge, suffices), charge, 0), w, craft, tick, end, essential, sun, true)
	}
	if short < 5000 || exact < 2000 {
		t.Errorf("the needs are one-sided: %d, of which %d in batteries with room for more", short, exact)
	}
}

// greatestNeed returns the greatest need from a tick on.
func greatestNeed(w []api.Window, craft, tick, essential, sun int) int {
	greatest := 0
	for k := tick; k < wantEnd(w); k++ {
		greatest = max(greatest, power.Reserve(w, craft, k, essential, sun))
	}
	return greatest
}
