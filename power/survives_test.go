package power_test

import (
	"math/rand"
	"testing"

	"perigee/api"
	"perigee/orbit"
	"perigee/power"
)

// TestSurvivesEmpty checks P10.5 for empty and reversed periods: nothing needs to be supplied.
func TestSurvivesEmpty(t *testing.T) {
	w := table(t, eclipse(0, 10, 20))
	for _, c := range [][2]int{{0, 0}, {10, 10}, {15, 15}, {20, 20}, {1, 0}, {15, 10}, {15, 5}, {25, 15}, {40, 30}, {top + 1, top + 1}, {top + 1, 0}, {top, top - 1}} {
		for _, sun := range []int{0, 8, most} {
			checkSurvives(t, battery(0, 0, 0), w, 0, c[0], c[1], most, sun, true)
			checkSurvives(t, battery(0, 0, 0), nil, 0, c[0], c[1], most, sun, true)
			checkSurvives(t, battery(most, 7, most), w, 0, c[0], c[1], 5, sun, true)
		}
	}
}

// TestSurvivesEclipse checks P10.5 for periods that begin and end before, in and after an eclipse: a charge that just suffices and one that is 1 less.
func TestSurvivesEclipse(t *testing.T) {
	w := table(t, eclipse(1, 0, 90), eclipse(0, 10, 14), contact(0, 10, 90), place(0, 11, 12))
	for _, c := range []struct{ from, until, need int }{
		{10, 14, 20}, {10, 13, 15}, {10, 11, 5}, {11, 14, 15}, {13, 14, 5}, {9, 14, 17}, {8, 14, 14}, {4, 14, 2}, {9, 11, 2}, {8, 12, 4}, {13, 20, 5}, {10, 90, 20}, {10, 95, 20}, {9, top + 1, 17}, {12, 17, 10},
	} {
		for _, spare := range []int{0, 1, 50} {
			checkSurvives(t, battery(100, c.need+spare, 100), w, 0, c.from, c.until, 5, 8, true)
			checkSurvives(t, battery(100, c.need-1-min(spare, c.need-1), 0), w, 0, c.from, c.until, 5, 8, false)
		}
	}
	for _, c := range [][2]int{{3, 14}, {0, 10}, {9, 10}, {14, 90}, {14, 15}, {30, top + 1}, {0, 14}} {
		checkSurvives(t, battery(100, 0, 0), w, 0, c[0], c[1], 5, 8, true)
	}
	// The eclipse of craft 1 ends when that of craft 0 is long over, and other crafts have none.
	checkSurvives(t, battery(450, 450, 0), w, 1, 0, 90, 5, 8, true)
	checkSurvives(t, battery(450, 449, 0), w, 1, 0, 90, 5, 8, false)
	checkSurvives(t, battery(450, 449, 0), w, 1, 0, 89, 5, 8, true)
	for _, craft := range append([]int{2, 11, 12, -1, -12}, extremes...) {
		checkSurvives(t, battery(5, 0, 0), w, craft, 0, top+1, 5, 5, true)
		checkSurvives(t, battery(5, 4, 0), w, craft, 0, 2, 5, 3, false)
	}
}

// TestSurvivesSeveral checks P10.5 for eclipses in a row: what is gained between them counts, up to the capacity.
func TestSurvivesSeveral(t *testing.T) {
	w := table(t, eclipse(0, 10, 14), eclipse(0, 16, 20), eclipse(0, 20, 22))
	// Four ticks in the first eclipse take 20, two ticks of sun give 6 more than is taken, and six in the others take 30.
	checkSurvives(t, battery(100, 44, 0), w, 0, 10, 22, 5, 8, true)
	checkSurvives(t, battery(100, 43, 0), w, 0, 10, 22, 5, 8, false)
	checkSurvives(t, battery(100, 43, 0), w, 0, 10, 21, 5, 8, true)
	checkSurvives(t, battery(100, 20, 0), w, 0, 10, 17, 5, 8, true)
	checkSurvives(t, battery(100, 20, 0), w, 0, 10, 18, 5, 8, false)
	// The last tick of sun leaves at most the capacity less 5 for the six dark ticks that take 30.
	checkSurvives(t, battery(35, 20, 0), w, 0, 10, 22, 5, 30, true)
	checkSurvives(t, battery(34, 34, 0), w, 0, 10, 22, 5, most, false)
	checkSurvives(t, battery(34, 34, 0), w, 0, 10, 21, 5, most, true)
	checkSurvives(t, battery(35, 35, 0), w, 0, 0, 22, 5, most, true)
	checkSurvives(t, battery(35, 19, 0), w, 0, 10, 22, 5, most, false)
}

// TestSurvivesSun checks P10.5 in sunlight, with less sun than the loads take, as much, and more, in and beyond the table.
func TestSurvivesSun(t *testing.T) {
	for _, w := range [][]api.Window{nil, table(t, eclipse(1, 0, 40)), table(t, contact(0, 0, 100)), table(t, eclipse(0, 900, 1000))} {
		for _, from := range []int{0, 7, 300} {
			checkSurvives(t, battery(100, 20, 0), w, 0, from, from+10, 5, 3, true)
			checkSurvives(t, battery(100, 19, 0), w, 0, from, from+10, 5, 3, false)
			checkSurvives(t, battery(100, 19, 0), w, 0, from, from+9, 5, 3, true)
			checkSurvives(t, battery(100, 0, 0), w, 0, from, from+500, 5, 5, true)
			checkSurvives(t, battery(5, 0, 0), w, 0, from, from+500, 5, 5, true)
			checkSurvives(t, battery(5, 0, 0), w, 0, from, from+500, 5, most, true)
			checkSurvives(t, battery(5, 0, 0), w, 0, from, from+500, 0, 0, true)
			checkSurvives(t, battery(0, 0, 0), w, 0, from, from+500, 0, most, true)
			checkSurvives(t, battery(5, 0, 0), w, 0, from, from+1, 5, 4, false)
			checkSurvives(t, battery(5, 1, 0), w, 0, from, from+1, 5, 4, true)
			checkSurvives(t, battery(5, 1, 0), w, 0, from, from+2, 5, 4, false)
		}
	}
}

// TestSurvivesFull checks P10.5 for a battery that is full: the gain is added up to Capacity before the loads take theirs.
func TestSurvivesFull(t *testing.T) {
	for _, sun := range []int{5, 6, 100, most} {
		checkSurvives(t, battery(5, 5, 0), nil, 0, 0, 1000, 5, sun, true)
		checkSurvives(t, battery(4, 4, 0), nil, 0, 0, 1000, 5, sun, false)
		checkSurvives(t, battery(4, 4, 4), nil, 0, 0, 1, 5, sun, false)
	}
	// The first tick spills 3, so that the second one begins with 5.
	checkSurvives(t, battery(10, 10, 0), nil, 0, 0, 3, 5, 3, true)
	checkSurvives(t, battery(10, 10, 0), nil, 0, 0, 4, 5, 3, false)
	checkSurvives(t, battery(10, 7, 0), nil, 0, 0, 3, 5, 3, true)
	checkSurvives(t, battery(11, 11, 0), nil, 0, 0, 4, 5, 3, true)
	checkSurvives(t, battery(13, 10, 0), nil, 0, 0, 4, 5, 3, true)
	w := table(t, eclipse(0, 5, 9))
	checkSurvives(t, battery(25, 25, 0), w, 0, 0, 9, 5, 8, true)
	checkSurvives(t, battery(24, 24, 0), w, 0, 0, 9, 5, 8, false)
	checkSurvives(t, battery(24, 24, 0), w, 0, 5, 9, 5, 8, true)
	checkSurvives(t, battery(24, 24, 0), w, 0, 0, 8, 5, 8, true)
}

// TestSurvivesGreatest checks P10.5 for the greatest powers, batteries and periods.
func TestSurvivesGreatest(t *testing.T) {
	w := table(t, eclipse(0, 1, top))
	full := battery(most, most, most)
	checkSurvives(t, full, w, 0, 0, 2, most, most, false)
	checkSurvives(t, full, w, 0, 0, 1, most, most, true)
	checkSurvives(t, full, w, 1, 0, top+1, most, most, true)
	checkSurvives(t, full, w, 1, 0, top+1, most, most-1, false)
	checkSurvives(t, full, w, 1, 0, top+1, 1, most, true)
	checkSurvives(t, full, w, 0, 0, top+1, 2147, 0, true)
	checkSurvives(t, full, w, 0, 0, top+1, 2148, 0, false)
	checkSurvives(t, full, w, 0, 0, top+1, 2147, most, true)
	checkSurvives(t, full, w, 0, 0, top+1, 2148, most, false)
	checkSurvives(t, battery(top, top, 0), w, 0, 1, top+1, 1, 1, true)
	checkSurvives(t, battery(top, top-1, 0), w, 0, 1, top+1, 1, 1, true)
	checkSurvives(t, battery(top, top-2, 0), w, 0, 1, top+1, 1, 1, false)
	checkSurvives(t, battery(top, top-2, 0), w, 0, 1, top-1, 1, 1, true)
	checkSurvives(t, battery(most, 0, 0), nil, 0, 0, top+1, 0, most, true)
	checkSurvives(t, battery(most, top*2+2, 0), nil, 0, 0, top+1, most, most-2, false)
	checkSurvives(t, battery(most, top*2+2, 0), nil, 0, 0, top+1, top, top-2, true)
	checkSurvives(t, battery(most, top*2+1, 0), nil, 0, 0, top+1, top, top-2, false)
	checkSurvives(t, battery(most, top*2+1, 0), nil, 0, 0, top, top, top-2, true)
}

// life is a battery of a craft in an orbit table, for a period.
type life struct {
	b                                  api.Battery
	w                                  []api.Window
	craft, from, until, essential, sun int
}

// survives returns what Survives returns.
func (l life) survives() bool {
	return power.Survives(l.b, l.w, l.craft, l.from, l.until, l.essential, l.sun)
}

// check checks what Survives returns.
func (l life) check(t *testing.T, want bool) {
	t.Helper()
	checkSurvives(t, l.b, l.w, l.craft, l.from, l.until, l.essential, l.sun, want)
}

// someLife returns a random battery in a random table, with periods that often end beyond it.
func someLife(r *rand.Rand) life {
	l := life{w: someTable(r, 20, 50), craft: r.Intn(3), from: r.Intn(60), essential: r.Intn(9), sun: r.Intn(16)}
	l.until = l.from + r.Intn(70) - 2
	l.b = someBattery(r, []int{8, 30, 100, 400}[r.Intn(4)])
	if r.Intn(3) == 0 {
		// The charge that just suffices, or almost, if the capacity is great enough.
		l.b.Charge = min(l.b.Capacity, max(0, power.Reserve(l.w, l.craft, l.from, l.essential, l.sun)-r.Intn(2)))
	}
	return l
}

// TestSurvivesDefinition compares Survives with the chapter's definition (P10.5) for random batteries, small tables and periods.
func TestSurvivesDefinition(t *testing.T) {
	r := rand.New(rand.NewSource(105))
	survived := 0
	for range 60000 {
		l := someLife(r)
		want := wantSurvives(l.b, l.w, l.craft, l.from, l.until, l.essential, l.sun)
		l.check(t, want)
		if want && l.from < l.until {
			survived++
		}
	}
	if survived < 10000 || survived > 50000 {
		t.Errorf("the lives are one-sided: %d of 60000 survived", survived)
	}
}

// TestSurvivesWide compares Survives with the chapter's definition (P10.5) for random tables and periods of any length and numbers of any size.
func TestSurvivesWide(t *testing.T) {
	r := rand.New(rand.NewSource(1050))
	survived := 0
	for range 100 {
		w := someTable(r, api.MaxWindows, 1000+r.Intn(top-1000))
		from, craft := upTo(r, top+1)/2, r.Intn(2)
		until := from + upTo(r, top+1-from)
		if r.Intn(3) > 0 {
			until = top + 1
		}
		essential := upTo(r, most/top)
		sun := essential + upTo(r, essential)
		need := power.Reserve(w, craft, from, essential, sun)
		for _, charge := range []int{need, need - 1, need - 1 - upTo(r, need), upTo(r, 2*need), upTo(r, most)} {
			b := battery(most-upTo(r, most/2), 0, 0)
			b.Charge = min(max(charge, 0), b.Capacity)
			want := wantSurvives(b, w, craft, from, until, essential, sun)
			checkSurvives(t, b, w, craft, from, until, essential, sun, want)
			if want {
				survived++
			}
		}
	}
	if survived < 150 || survived > 400 {
		t.Errorf("the lives are one-sided: %d of 500 survived", survived)
	}
}

// TestMonotony checks P10.9 for random batteries that survive: they also do with more charge, capacity or sun, less power of the essential loads, an earlier end of the period, and all of that at once.
func TestMonotony(t *testing.T) {
	r := rand.New(rand.NewSource(109))
	survived := 0
	for range 60000 {
		l := someLife(r)
		if l.from >= l.until || !l.survives() {
			continue
		}
		survived++
		charged, larger, brighter, weaker, shorter := l, l, l, l, l
		charged.b.Charge += r.Intn(l.b.Capacity - l.b.Charge + 1)
		larger.b.Capacity += upTo(r, most-l.b.Capacity)
		brighter.sun += upTo(r, most-l.sun)
		weaker.essential = r.Intn(l.essential + 1)
		shorter.until = l.from + r.Intn(l.until-l.from+1)
		for _, better := range []life{charged, larger, brighter, weaker, shorter} {
			better.check(t, true)
		}
		all := life{larger.b, l.w, l.craft, l.from, shorter.until, weaker.essential, brighter.sun}
		all.b.Charge = charged.b.Charge + upTo(r, larger.b.Capacity-charged.b.Charge)
		all.check(t, true)
	}
	if survived < 10000 {
		t.Errorf("only %d batteries survived", survived)
	}
}

// stepwise tells whether there is no brownout in a sequence of Steps with one essential load.
func stepwise(l life, id int) bool {
	all := gains(l.w, l.craft, max(l.from, l.until), l.sun)
	b := l.b
	for k := l.from; k < l.until; k++ {
		var s api.Supply
		if b, s = power.Step(b, all[k], []api.Load{vital(id, l.essential)}); s.Brownout {
			return false
		}
	}
	return true
}

// TestSteps checks P10.10 for random batteries: they survive exactly if there is no brownout in a sequence of Steps.
func TestSteps(t *testing.T) {
	r := rand.New(rand.NewSource(110))
	survived := 0
	for range 30000 {
		l := someLife(r)
		want := stepwise(l, r.Intn(9)-4)
		l.check(t, want)
		if want && l.from < l.until {
			survived++
		}
	}
	if survived < 5000 || survived > 25000 {
		t.Errorf("the lives are one-sided: %d of 30000 survived", survived)
	}
}

// TestSafety checks P10.11 for random tables, essential loads that share their power, and other loads that change from tick to tick: with the need as charge and a Reserve and a Capacity that just suffice there is no brownout until the end.
func TestSafety(t *testing.T) {
	r := rand.New(rand.NewSource(111))
	others := 0
	for range 5000 {
		w := someTable(r, 20, 50)
		end := wantEnd(w)
		craft, tick, sun := r.Intn(3), r.Intn(end+2), r.Intn(25)
		loads := []api.Load{vital(20, r.Intn(4)), vital(-1, r.Intn(4)), vital(7, r.Intn(4))}
		essential := power.Essential(loads)
		need := power.Reserve(w, craft, tick, essential, sun)
		later := greatestNeed(w, craft, tick+1, essential, sun)
		reserve := later + r.Intn(2)*r.Intn(9)
		capacity := max(need, reserve, later+essential) + r.Intn(2)*r.Intn(40)
		b := battery(capacity, need+r.Intn(2)*r.Intn(capacity-need+1), reserve)
		all := gains(w, craft, end, sun)
		for k := tick; k < end; k++ {
			var s api.Supply
			if b, s = power.Step(b, all[k], append(loads[:3:3], someOthers(r)...)); s.Brownout {
				t.Fatalf("craft %d of %v has a brownout at tick %d, from tick %d on, essential %d, sun %d: %v", craft, w, k, tick, essential, sun, b)
			}
			others += len(s.Served) - 3
		}
	}
	if others < 20000 {
		t.Errorf("only %d other loads were served", others)
	}
}

// someOthers returns random loads that are not essential.
func someOthers(r *rand.Rand) []api.Load {
	var loads []api.Load
	for i := range r.Intn(5) {
		loads = append(loads, other(r.Intn(3)+3*i-20, upTo(r, 30), r.Intn(3)))
	}
	return loads
}

// TestGain checks that the gain of Reserve and Survives (P10.4, P10.5) is sun or 0 as package orbit finds no eclipse or one.
func TestGain(t *testing.T) {
	r := rand.New(rand.NewSource(1051))
	for range 2000 {
		w := someTable(r, 30, 40)
		for tick := range wantEnd(w) {
			_, dark := orbit.At(w, api.WinEclipse, 0, 0, tick)
			checkSurvives(t, battery(9, 4, 0), w, 0, tick, tick+1, 5, 1, !dark)
			gain := 3
			if dark {
				gain = 0
			}
			later := power.Reserve(w, 0, tick+1, 2, 3)
			checkReserve(t, w, 0, tick, 2, 3, max(later+2-gain, 0))
		}
	}
}
