package power_test

import (
	"math"
	"math/rand"
	"slices"
	"testing"
	"time"

	"perigee/api"
	"perigee/orbit"
	"perigee/power"
)

// TestArguments checks R4 and R5 for P10.1 to P10.5: no function changes its loads or its table, or the spare capacity behind them, and what is behind them changes no result.
func TestArguments(t *testing.T) {
	r := rand.New(rand.NewSource(10))
	for range 2000 {
		b, gain, loads := someStep(r)
		long := append(slices.Clone(loads), vital(-99, 1), other(-98, 1, 9))
		before := slices.Clone(long)
		spare := long[:len(loads)]
		checkErr(t, b, spare, power.Check(b, loads))
		after, s := power.Step(b, gain, loads)
		checkStep(t, b, gain, spare, after.Charge, s)
		checkEssential(t, spare, power.Essential(loads))
		if !slices.Equal(long, before) {
			t.Errorf("the loads %v became %v", before, long)
		}
		w := someTable(r, 30, 60)
		windows := append(slices.Clone(w), eclipse(0, 3, 50), contact(0, 10, 90))
		same := slices.Clone(windows)
		checkReserve(t, windows[:len(w)], 0, 5, 5, 8, power.Reserve(w, 0, 5, 5, 8))
		checkSurvives(t, b, windows[:len(w)], 0, 5, 50, 5, 8, power.Survives(b, w, 0, 5, 50, 5, 8))
		if !slices.Equal(windows, same) {
			t.Errorf("the table %v became %v", same, windows)
		}
	}
}

// TestResults checks R4 for P10.2: Served is new for each call, so that changing one, or appending to it, changes no other one.
func TestResults(t *testing.T) {
	b, loads := battery(100, 50, 20), []api.Load{vital(1, 15), other(2, 20, 5), other(3, 10, 7)}
	_, first := power.Step(b, 10, loads)
	_, second := power.Step(b, 10, loads)
	served := first.Served[:cap(first.Served)]
	for i := range served {
		served[i] = -99
	}
	if !slices.Equal(second.Served, []int{1, 3}) {
		t.Error("Step: an earlier result became", second.Served)
	}
	checkStep(t, b, 10, loads, 35, api.Supply{Gained: 10, Used: 25, Served: []int{1, 3}})
}

// TestNothing checks R4 for nil and empty loads and tables, which are equivalent.
func TestNothing(t *testing.T) {
	for _, loads := range [][]api.Load{nil, {}, manyLoads(3)[:0]} {
		checkErr(t, battery(9, 5, 3), loads, api.OK)
		checkStep(t, battery(9, 5, 3), 6, loads, 9, api.Supply{Gained: 4, Spilled: 2})
		checkStep(t, battery(9, 0, 9), 0, loads, 0, api.Supply{})
		checkEssential(t, loads, 0)
	}
	for _, w := range [][]api.Window{nil, {}, table(t, eclipse(0, 0, 9))[:0]} {
		checkReserve(t, w, 0, 0, 5, 0, 0)
		checkSurvives(t, battery(9, 9, 0), w, 0, 0, 9, 1, 0, true)
		checkSurvives(t, battery(9, 9, 0), w, 0, 0, 10, 1, 0, false)
	}
}

// TestNoPanic checks R1 for arguments of all kinds, also outside the functions' domains: no function panics or runs on.
func TestNoPanic(t *testing.T) {
	r := rand.New(rand.NewSource(11))
	numbers := append([]int{-1, 0, 1, 2, 3, 5, 11, 12, 40, most - 1, most, most + 1, top - 1, top, top + 1}, extremes...)
	some := func() int { return numbers[r.Intn(len(numbers))] }
	for range 20000 {
		b := battery(some(), some(), some())
		var loads []api.Load
		for range r.Intn(5) {
			loads = append(loads, api.Load{ID: some(), Power: some(), Priority: some(), Essential: r.Intn(2) == 0})
		}
		power.Check(b, loads)
		power.Step(b, some(), loads)
		power.Essential(loads)
		w := someTable(r, 12, 40)
		for i := range w {
			for _, p := range []*int{&w[i].Kind, &w[i].A, &w[i].B, &w[i].From, &w[i].Until, &w[i].Rate} {
				if r.Intn(8) == 0 {
					*p = some()
				}
			}
		}
		r.Shuffle(len(w), func(i, j int) { w[i], w[j] = w[j], w[i] })
		power.Reserve(w, r.Intn(3), some(), some(), some())
		power.Survives(b, w, r.Intn(3), some(), some(), some(), some())
	}
}

// fullTable returns a table of MaxWindows eclipses of craft 0, each of some ticks and with as many ticks of sunlight before it.
func fullTable(t *testing.T, ticks int) []api.Window {
	t.Helper()
	var w []api.Window
	for i := range api.MaxWindows {
		w = append(w, eclipse(0, (2*i+1)*ticks, (2*i+2)*ticks))
	}
	if e := orbit.Check(w); e != api.OK {
		t.Fatal("the table is not valid:", e)
	}
	return w
}

// fastest returns the least time of several runs of a function.
func fastest(f func()) time.Duration {
	least := time.Duration(math.MaxInt64)
	for range 7 {
		begin := time.Now()
		f()
		least = min(least, time.Since(begin))
	}
	return least
}

// TestNumberOfSteps checks P10.4 and P10.5: the time does not depend on the number of ticks. A table and a period of 2500 times as many ticks would take about 2500 times as long if each tick took a step.
func TestNumberOfSteps(t *testing.T) {
	const long = 2500
	small, large := fullTable(t, 1), fullTable(t, long)
	if end := wantEnd(large); end != top {
		t.Fatal("the table ends at", end)
	}
	b := battery(most, most/2, 0)
	// A tick of sunlight and one of an eclipse take 10 and give 8.
	reserve := func(w []api.Window, ticks int) func() {
		return func() { checkReserve(t, w, 0, 0, 5, 8, 2*api.MaxWindows*ticks) }
	}
	survives := func(w []api.Window, until int) func() {
		return func() { checkSurvives(t, b, w, 0, 0, until, 5, 8, true) }
	}
	for _, c := range []struct {
		name        string
		short, long func()
	}{
		{"Reserve", reserve(small, 1), reserve(large, long)},
		{"Survives", survives(small, top/long), survives(large, top)},
		{"Survives without windows", survives(nil, top/long), survives(nil, top+1)},
	} {
		few, many := fastest(c.short), fastest(c.long)
		if many > 100*(few+time.Microsecond) {
			t.Errorf("%s takes %v for %d ticks, and %v for %d ticks", c.name, few, top/long, many, top)
		}
	}
}
