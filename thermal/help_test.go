package thermal_test

import (
	"math"
	"math/rand"
	"slices"
	"testing"

	"perigee/api"
	"perigee/thermal"
)

const (
	top  = api.MaxTick
	warm = 1000000 // the greatest temperature; the least one is -warm
)

// extremes are numbers with which a careless sum, difference or opposite overflows, and their neighbours.
var extremes = []int{math.MinInt, math.MinInt + 1, math.MinInt + warm, -2 * warm, 2 * warm, math.MaxInt - warm, math.MaxInt - 1, math.MaxInt}

// zone returns a zone with the limit 0.
func zone(temp, leak int) api.Zone { return api.Zone{Temp: temp, Leak: leak} }

// limit returns a zone that is of interest for its temperature and limit only.
func limit(temp, limit int) api.Zone { return api.Zone{Temp: temp, Limit: limit, Leak: 1} }

// someTemp returns a random number from -warm to warm, which is small, close to one of them, or of any size.
func someTemp(r *rand.Rand) int {
	n := 0
	switch r.Intn(4) {
	case 0:
		n = r.Intn(30)
	case 1:
		n = warm - r.Intn(30)
	case 2:
		n = r.Intn(warm >> r.Intn(20))
	case 3:
		n = r.Intn(warm + 1)
	}
	if r.Intn(2) == 0 {
		return -n
	}
	return n
}

// someLeak returns a random number from 1 to 1000.
func someLeak(r *rand.Rand) int {
	return []int{1, 2, 1 + r.Intn(10), 1 + r.Intn(1000), 1000 - r.Intn(3)}[r.Intn(5)]
}

// someZone returns a random valid zone.
func someZone(r *rand.Rand) api.Zone {
	return api.Zone{Temp: someTemp(r), Limit: someTemp(r), Leak: someLeak(r)}
}

// someZones returns at most n random valid zones.
func someZones(r *rand.Rand, n int) []api.Zone {
	var z []api.Zone
	for range r.Intn(n + 1) {
		z = append(z, someZone(r))
	}
	return z
}

// someHeat returns random heat with at most n elements.
func someHeat(r *rand.Rand, n int) []int {
	var heat []int
	for range r.Intn(n + 1) {
		heat = append(heat, someTemp(r))
	}
	return heat
}

// part returns the elements of heat from element from up to, but not including, element until, as far as there are such.
func part(heat []int, from, until int) []int {
	return heat[min(from, len(heat)):min(until, len(heat))]
}

// wantLoss returns the loss of a zone, by the chapter's definition.
func wantLoss(z api.Zone, space int) int {
	return int(math.Floor(float64(z.Temp-space) / float64(z.Leak)))
}

// wantNext returns the temperature of a zone after a tick, by the chapter's definition.
func wantNext(z api.Zone, heat, space int) int {
	n := z.Temp + heat - wantLoss(z, space)
	if n < -1000000 {
		return -1000000
	}
	if n > 1000000 {
		return 1000000
	}
	return n
}

// course returns the temperatures of a zone before the first tick and after each of some ticks, by the chapter's definition.
func course(z api.Zone, heat, space, ticks int) []int {
	temps := []int{z.Temp}
	for range ticks {
		z.Temp = wantNext(z, heat, space)
		temps = append(temps, z.Temp)
	}
	return temps
}

// wantAfter returns the zones after some ticks, by the chapter's definition.
func wantAfter(z []api.Zone, heat []int, space, ticks int) []api.Zone {
	var zones []api.Zone
	for i, v := range z {
		h := 0
		if i < len(heat) {
			h = heat[i]
		}
		temps := course(v, h, space, ticks)
		zones = append(zones, api.Zone{Temp: temps[len(temps)-1], Limit: v.Limit, Leak: v.Leak})
	}
	return zones
}

// checkErr checks a result of Check.
func checkErr(t *testing.T, z []api.Zone, want api.Errno) {
	t.Helper()
	if got := thermal.Check(z); got != want {
		t.Errorf("Check(%v) = %d, want %d", z, got, want)
	}
}

// checkStep checks a result of Step, and that of After for one tick.
func checkStep(t *testing.T, z []api.Zone, heat []int, space int, want []api.Zone) {
	t.Helper()
	if got := thermal.Step(z, heat, space); !slices.Equal(got, want) {
		t.Errorf("Step(%v, %v, %d) = %v, want %v", z, heat, space, got, want)
	}
	checkAfter(t, z, heat, space, 1, want)
}

// checkTick checks the temperature of a zone after one tick, by Step and Peak.
func checkTick(t *testing.T, z api.Zone, heat, space, want int) {
	t.Helper()
	after := z
	after.Temp = want
	checkStep(t, []api.Zone{z}, []int{heat}, space, []api.Zone{after})
	checkPeak(t, z, heat, space, 1, max(z.Temp, want))
}

// checkAfter checks a result of After.
func checkAfter(t *testing.T, z []api.Zone, heat []int, space, ticks int, want []api.Zone) {
	t.Helper()
	if got := thermal.After(z, heat, space, ticks); !slices.Equal(got, want) {
		t.Errorf("After(%v, %v, %d, %d) = %v, want %v", z, heat, space, ticks, got, want)
	}
}

// checkPeak checks a result of Peak.
func checkPeak(t *testing.T, z api.Zone, heat, space, ticks, want int) {
	t.Helper()
	if got := thermal.Peak(z, heat, space, ticks); got != want {
		t.Errorf("Peak(%v, %d, %d, %d) = %d, want %d", z, heat, space, ticks, got, want)
	}
}

// checkHottest checks a result of Hottest.
func checkHottest(t *testing.T, z []api.Zone, want int) {
	t.Helper()
	if got := thermal.Hottest(z); got != want {
		t.Errorf("Hottest(%v) = %d, want %d", z, got, want)
	}
}

// checkOver checks a result of Over.
func checkOver(t *testing.T, z []api.Zone, want ...int) {
	t.Helper()
	if got := thermal.Over(z); !slices.Equal(got, want) {
		t.Errorf("Over(%v) = %v, want %v", z, got, want)
	}
}
