package thermal_test

import (
	"math"
	"math/rand"
	"slices"
	"testing"

	"perigee/api"
	"perigee/thermal"
)

// TestPeakExamples checks P11.4 for the chapter's examples and some ticks around them.
func TestPeakExamples(t *testing.T) {
	z := api.Zone{Temp: 300, Limit: 350, Leak: 10}
	checkPeak(t, z, 5, 4, 2, 300)
	for ticks, want := range []int{300, 311, 321, 330, 338, 345, 351, 357} {
		checkPeak(t, z, 40, 4, ticks, want)
	}
}

// TestPeakTicks checks P11.4 for ticks that are not positive: the temperature before the first tick, also of zones that would warm.
func TestPeakTicks(t *testing.T) {
	for _, ticks := range []int{0, -1, -5, -top, math.MinInt} {
		for _, temp := range []int{-warm, -300, -1, 0, 1, 300, warm} {
			for _, heat := range []int{-warm, -40, 0, 40, warm} {
				checkPeak(t, zone(temp, 10), heat, 4, ticks, temp)
			}
		}
	}
}

// TestPeakCourses checks P11.4 for zones that only cool, only warm, rest, and are kept at a limit.
func TestPeakCourses(t *testing.T) {
	for _, c := range []struct{ temp, leak, heat, space, ticks, want int }{
		// Only cool: the first temperature.
		{300, 10, 0, 4, 1, 300}, {300, 10, 29, 4, 0, 300}, {300, 10, 28, 4, 1000, 300}, {300, 10, -5, 4, top, 300}, {-300, 10, -400, -310, 50, -300}, {-5, 1, -1, -5, 3, -5}, {warm, 1000, 0, -warm, 100, warm}, {-warm + 1, 5, -warm, 0, 9, -warm + 1},
		// Only warm: the last temperature.
		{300, 10, 30, 4, 1, 301}, {0, 7, 0, 4, 1, 1}, {0, 7, 0, 4, 2, 2}, {0, 7, 0, 4, 3, 3}, {0, 7, 0, 4, 4, 4}, {0, 7, 0, 4, 5, 4}, {-300, 10, 0, -50, 1, -275}, {-300, 10, 0, -50, 1000, -50}, {0, 1000, 7, 0, top, 7000}, {-warm, 1000, 1000, 0, top, warm},
		// Rest.
		{54, 10, 5, 4, 1, 54}, {63, 10, 5, 4, top, 63}, {0, 1, 0, 0, 7, 0}, {-77, 3, 0, -77, 9, -77},
		// Kept at a limit.
		{0, 10, warm, 0, 1, warm}, {0, 10, warm - 1, 0, 1, warm - 1}, {0, 10, warm - 1, 0, 2, warm}, {warm, 1000, warm, warm, 5, warm}, {-warm, 1, -warm, -warm, 5, -warm}, {-warm, 1000, -1000, 0, top, -warm}, {0, 2, -warm, -warm, 3, 0},
	} {
		checkPeak(t, zone(c.temp, c.leak), c.heat, c.space, c.ticks, c.want)
	}
}

// TestPeakLimit checks that the Limit of a zone changes nothing (P11.4).
func TestPeakLimit(t *testing.T) {
	for _, limit := range []int{-warm, 0, 299, 300, 301, 320, 321, 322, warm} {
		checkPeak(t, api.Zone{Temp: 300, Limit: limit, Leak: 10}, 40, 4, 2, 321)
		checkPeak(t, api.Zone{Temp: 300, Limit: limit, Leak: 10}, 5, 4, 2, 300)
	}
}

// TestPeakDefinition compares Peak with the chapter's definition (P11.4) for random zones: the greatest of all temperatures of the course. It also checks that with constant heat no zone does first one and then the other of warming and cooling.
func TestPeakDefinition(t *testing.T) {
	r := rand.New(rand.NewSource(114))
	first, last := 0, 0
	for range 20000 {
		z, heat, space := slow(r)
		if r.Intn(2) == 0 {
			z, heat, space = someZone(r), someTemp(r), someTemp(r)
		}
		temps := course(z, heat, space, r.Intn(1<<r.Intn(9)))
		want := slices.Max(temps)
		checkPeak(t, z, heat, space, len(temps)-1, want)
		warms, cools := slices.IsSorted(temps), slices.IsSortedFunc(temps, func(a, b int) int { return b - a })
		switch {
		case !warms && !cools:
			t.Errorf("%v with %d in %d warms and cools: %v", z, heat, space, temps)
		case warms && !cools:
			last++
		case cools && !warms:
			first++
		}
	}
	if first < 5000 || last < 5000 {
		t.Errorf("the courses are one-sided: %d cool, %d warm", first, last)
	}
}

// TestPeakMany checks P11.4 for random zones and up to 1000000 ticks.
func TestPeakMany(t *testing.T) {
	r := rand.New(rand.NewSource(1141))
	for range 30 {
		z, heat, space := slow(r)
		ticks := top - r.Intn(2)*r.Intn(top-20)
		checkPeak(t, z, heat, space, ticks, slices.Max(course(z, heat, space, ticks)))
	}
}

// TestPeakWarmsThenCools checks P11.8 for a zone that first warms and then cools, because it receives less heat or is in colder surroundings then, and for one that does first the other: both stay below the peak, and the first one attains that of the ticks in which it warms.
func TestPeakWarmsThenCools(t *testing.T) {
	z := api.Zone{Temp: 300, Leak: 10}
	warmed := thermal.After([]api.Zone{z}, []int{40}, 4, 7)
	if warmed[0].Temp != 357 {
		t.Fatal("the zone became", warmed)
	}
	checkPeak(t, z, 40, 4, 7, 357)
	for _, c := range [][2]int{{5, 4}, {40, -100}, {-40, -100}} {
		cooled := thermal.After(warmed, []int{c[0]}, c[1], 20)
		if peak := thermal.Peak(z, 40, 4, 27); cooled[0].Temp >= 357 || peak <= 357 {
			t.Errorf("the zone with %d in %d became %v, and its peak is %d", c[0], c[1], cooled, peak)
		}
		checkPeak(t, warmed[0], c[0], c[1], 20, 357)
	}
	cooled := thermal.After([]api.Zone{z}, []int{5}, 4, 7)
	again := thermal.After(cooled, []int{40}, 4, 20)
	if peak := thermal.Peak(z, 40, 4, 27); cooled[0].Temp != 173 || again[0].Temp <= 300 || again[0].Temp > peak {
		t.Errorf("the zone became %v and %v, and its peak is %d", cooled, again, peak)
	}
}

// TestPeakBound checks P11.8 for random zones whose heat and surroundings change from tick to tick: no temperature exceeds the Peak, which constant heat attains.
func TestPeakBound(t *testing.T) {
	r := rand.New(rand.NewSource(118))
	less, turned := 0, 0
	for range 5000 {
		z, heat, space := slow(r)
		ticks := r.Intn(100)
		temp, warmed, cooled := z, false, false
		for k := range ticks {
			h, s := heat, space
			if r.Intn(3) == 0 {
				h -= r.Intn(heat + warm + 1)
			} else if r.Intn(2) == 0 {
				s -= r.Intn(min(space+warm, 1<<r.Intn(20)) + 1)
			}
			before := temp.Temp
			temp.Temp = next(temp, h, s)
			warmed, cooled = warmed || temp.Temp > before, cooled || temp.Temp < before
			if peak := thermal.Peak(z, heat, space, k+1); temp.Temp > peak || temp.Temp > thermal.Peak(z, heat, space, ticks) {
				t.Errorf("%v with at most %d in at most %d is %v after %d ticks, and its peak is %d", z, heat, space, temp, k+1, peak)
			}
		}
		if warmed && cooled {
			turned++
		}
		if peak := thermal.Peak(z, heat, space, ticks); temp.Temp < peak {
			less++
		}
		constant := course(z, heat, space, ticks)
		if !slices.Contains(constant, thermal.Peak(z, heat, space, ticks)) {
			t.Errorf("%v with %d in %d never attains the peak: %v", z, heat, space, constant)
		}
	}
	if less < 1000 || turned < 1000 {
		t.Errorf("the courses are one-sided: %d end below the peak, %d warm and cool", less, turned)
	}
}

// TestPeakIncreases checks P11.8 for random zones: the peak does not decrease if ticks, heat or space increase.
func TestPeakIncreases(t *testing.T) {
	r := rand.New(rand.NewSource(1181))
	greater := 0
	for range 20000 {
		z, heat, space := slow(r)
		ticks := r.Intn(200) - 5
		peak := thermal.Peak(z, heat, space, ticks)
		warmer, longer, around := heat+r.Intn(1<<r.Intn(18)), ticks+r.Intn(1<<r.Intn(8)), space+r.Intn(1<<r.Intn(18))
		for _, p := range []int{thermal.Peak(z, warmer, space, ticks), thermal.Peak(z, heat, around, ticks), thermal.Peak(z, heat, space, longer), thermal.Peak(z, warmer, around, longer)} {
			if p < peak {
				t.Errorf("the peak of %v with %d in %d for %d ticks is %d, but with one of %d, %d and %d more it is %d", z, heat, space, ticks, peak, warmer-heat, around-space, longer-ticks, p)
			}
			if p > peak {
				greater++
			}
		}
	}
	if greater < 10000 {
		t.Errorf("only %d peaks are greater", greater)
	}
}
