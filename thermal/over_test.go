package thermal_test

import (
	"math"
	"math/rand"
	"slices"
	"testing"

	"perigee/api"
	"perigee/thermal"
)

// TestHottest checks P11.5 for Hottest: no zones, one zone, and the hottest zone at each index, also if all temperatures are negative.
func TestHottest(t *testing.T) {
	checkHottest(t, nil, 0)
	for _, n := range append([]int{-warm, -2, -1, 0, 1, 300, warm}, extremes...) {
		checkHottest(t, []api.Zone{zone(n, 1)}, n)
		checkHottest(t, []api.Zone{zone(n, 1), limit(n, warm), limit(n, -warm)}, n)
	}
	for i := range 8 {
		for _, base := range []int{-warm, -9, 0, 9, warm - 1} {
			z := slices.Repeat([]api.Zone{{Temp: base, Limit: warm, Leak: 1000}}, 8)
			z[i] = api.Zone{Temp: base + 1, Limit: -5, Leak: 3}
			checkHottest(t, z, base+1)
		}
	}
	checkHottest(t, []api.Zone{zone(-5, 1), zone(-2, 1), zone(-9, 1)}, -2)
	checkHottest(t, []api.Zone{zone(math.MinInt, 1), zone(math.MaxInt, 1), zone(0, 1)}, math.MaxInt)
}

// TestOver checks P11.5 for Over: temperatures that equal their Limit, are 1 below and above it, and are far from it.
func TestOver(t *testing.T) {
	checkOver(t, nil)
	checkOver(t, []api.Zone{limit(5, 5), limit(6, 5)}, 1) // the chapter's example
	for _, n := range []int{-warm + 1, -300, -1, 0, 1, 300, warm - 1} {
		checkOver(t, []api.Zone{limit(n, n)})
		checkOver(t, []api.Zone{limit(n-1, n)})
		checkOver(t, []api.Zone{limit(n, n+1)})
		checkOver(t, []api.Zone{limit(n+1, n)}, 0)
		checkOver(t, []api.Zone{limit(n, n-1)}, 0)
		checkOver(t, []api.Zone{limit(warm, n), limit(-warm, n), limit(n, -warm), limit(n, warm)}, 0, 2)
	}
	checkOver(t, []api.Zone{limit(warm, warm), limit(-warm, -warm), limit(warm, -warm), limit(-warm, warm)}, 2)
	checkOver(t, []api.Zone{limit(math.MaxInt, math.MinInt), limit(math.MinInt, math.MaxInt), limit(math.MinInt, math.MinInt), limit(math.MaxInt, math.MaxInt), limit(math.MinInt+1, math.MinInt)}, 0, 4)
	all := slices.Repeat([]api.Zone{limit(1, 0)}, 8)
	checkOver(t, all, 0, 1, 2, 3, 4, 5, 6, 7)
	// Leak is of no interest, also if the zone is not valid.
	for _, leak := range []int{-1, 0, 1, 1000, 1001} {
		checkOver(t, []api.Zone{{Temp: 1, Limit: 1, Leak: leak}, {Temp: 2, Limit: 1, Leak: leak}}, 1)
		checkHottest(t, []api.Zone{{Temp: 1, Limit: 9, Leak: leak}, {Temp: 2, Limit: 1, Leak: leak}}, 2)
	}
}

// TestHottestAndOver compares Hottest and Over with the chapter's definitions (P11.5) for random zones.
func TestHottestAndOver(t *testing.T) {
	r := rand.New(rand.NewSource(115))
	none, some := 0, 0
	for range 20000 {
		z := someZones(r, 9)
		for i := range z {
			if r.Intn(2) == 0 {
				z[i].Limit = z[i].Temp + r.Intn(3) - 1
			} else if r.Intn(2) == 0 {
				z[i].Limit = warm
			}
		}
		var temps, over []int
		for i, v := range z {
			temps = append(temps, v.Temp)
			if v.Temp > v.Limit {
				over = append(over, i)
			}
		}
		if len(z) > 0 {
			checkHottest(t, z, slices.Max(temps))
		}
		checkOver(t, z, over...)
		if len(over) == 0 {
			none++
		} else {
			some++
		}
	}
	if none < 2000 || some < 2000 {
		t.Errorf("the zones are one-sided: %d times none is over its limit, %d times some are", none, some)
	}
}

// TestOverAfter checks P11.5 together with P11.3: a zone that warms is over its Limit from the tick on at which it exceeds it.
func TestOverAfter(t *testing.T) {
	z := []api.Zone{{Temp: 300, Limit: 330, Leak: 10}, {Temp: 300, Limit: 311, Leak: 10}}
	for ticks, want := range [][]int{{}, {}, {1}, {1}, {0, 1}} {
		after := thermal.After(z, []int{40, 40}, 4, ticks)
		checkOver(t, after, want...)
		checkHottest(t, after, []int{300, 311, 321, 330, 338}[ticks])
	}
}
