package thermal_test

import (
	"math"
	"math/rand"
	"slices"
	"testing"

	"perigee/api"
	"perigee/thermal"
)

// TestArguments checks R4 and R5 for P11.1 to P11.5: no function changes its zones or its heat, or the spare capacity behind them, and what is behind them changes no result.
func TestArguments(t *testing.T) {
	r := rand.New(rand.NewSource(11))
	for range 3000 {
		z, heat, space, ticks := someZones(r, 8), someHeat(r, 9), someTemp(r), r.Intn(40)-3
		zones := append(slices.Clone(z), api.Zone{Temp: warm, Leak: 3}, api.Zone{})
		heats := append(slices.Clone(heat), slices.Repeat([]int{77}, 9)...)
		sameZones, sameHeats := slices.Clone(zones), slices.Clone(heats)
		spare, some := zones[:len(z)], heats[:len(heat)]
		checkErr(t, spare, thermal.Check(z))
		checkStep(t, spare, some, space, thermal.Step(z, heat, space))
		checkAfter(t, spare, some, space, ticks, thermal.After(z, heat, space, ticks))
		checkHottest(t, spare, thermal.Hottest(z))
		checkOver(t, spare, thermal.Over(z)...)
		if !slices.Equal(zones, sameZones) || !slices.Equal(heats, sameHeats) {
			t.Errorf("the zones %v became %v, and the heat %v became %v", sameZones, zones, sameHeats, heats)
		}
	}
}

// spoil changes all elements of zones, and of the spare capacity behind them.
func spoil(z []api.Zone) {
	z = z[:cap(z)]
	for i := range z {
		z[i] = api.Zone{Temp: -99, Limit: -99, Leak: -99}
	}
}

// TestResults checks R4 for P11.2, P11.3 and P11.5: the zones of a result share no memory with the argument or with those of another result, also if no tick passes or no temperature changes.
func TestResults(t *testing.T) {
	for _, z := range [][]api.Zone{{{Temp: 300, Limit: 350, Leak: 10}, {Temp: 0, Limit: 1, Leak: 7}}, {{Temp: 4, Limit: 9, Leak: 10}, {Temp: 5, Limit: 8, Leak: 10}}} {
		same := slices.Clone(z)
		for _, f := range []func() []api.Zone{
			func() []api.Zone { return thermal.Step(z, nil, 4) },
			func() []api.Zone { return thermal.After(z, nil, 4, 5) },
			func() []api.Zone { return thermal.After(z, nil, 4, 1) },
			func() []api.Zone { return thermal.After(z, nil, 4, 0) },
			func() []api.Zone { return thermal.After(z, nil, 4, -1) },
		} {
			first, second := f(), f()
			want := slices.Clone(second)
			spoil(first)
			if !slices.Equal(z, same) || !slices.Equal(second, want) || !slices.Equal(f(), want) {
				t.Errorf("after a result was changed, the zones %v are %v, and the other result %v is %v", same, z, want, second)
			}
			spoil(z)
			if !slices.Equal(second, want) {
				t.Errorf("after the zones were changed, the result %v is %v", want, second)
			}
			copy(z, same)
		}
	}
	z := []api.Zone{limit(6, 5), limit(5, 5), limit(7, 5)}
	first, second := thermal.Over(z), thermal.Over(z)
	for i := range first[:cap(first)] {
		first[:cap(first)][i] = -99
	}
	if !slices.Equal(second, []int{0, 2}) {
		t.Error("Over: an earlier result became", second)
	}
	checkOver(t, z, 0, 2)
}

// TestNothing checks R4 for nil and empty zones and heat, which are equivalent.
func TestNothing(t *testing.T) {
	for _, z := range [][]api.Zone{nil, {}, make([]api.Zone, 9)[:0]} {
		checkErr(t, z, api.OK)
		checkHottest(t, z, 0)
		checkOver(t, z)
		for _, heat := range [][]int{nil, {}, []int{1, 2, 3}[:0], {5}} {
			checkStep(t, z, heat, 4, nil)
			checkAfter(t, z, heat, 4, 7, nil)
			checkAfter(t, z, heat, 4, 0, nil)
		}
	}
	for _, heat := range [][]int{nil, {}, []int{1, 2, 3}[:0]} {
		checkStep(t, []api.Zone{zone(100, 10)}, heat, 0, []api.Zone{zone(90, 10)})
		checkAfter(t, []api.Zone{zone(100, 10)}, heat, 0, 2, []api.Zone{zone(81, 10)})
	}
}

// TestNoPanic checks R1 for arguments of all kinds, also outside the functions' domains: no function panics or runs on.
func TestNoPanic(t *testing.T) {
	r := rand.New(rand.NewSource(12))
	numbers := append([]int{-1001, -2, -1, 0, 1, 2, 3, 10, 999, 1000, 1001, -warm - 1, -warm, warm, warm + 1, top - 1, top + 1}, extremes...)
	some := func() int { return numbers[r.Intn(len(numbers))] }
	for range 1000 {
		var z []api.Zone
		var heat []int
		for range r.Intn(4) {
			z = append(z, api.Zone{Temp: some(), Limit: some(), Leak: some()})
		}
		for range r.Intn(4) {
			heat = append(heat, some())
		}
		thermal.Check(z)
		thermal.Step(z, heat, some())
		thermal.After(z, heat, some(), some())
		thermal.Peak(api.Zone{Temp: some(), Limit: some(), Leak: some()}, some(), some(), some())
		thermal.Hottest(z)
		thermal.Over(z)
	}
	for _, ticks := range []int{top, top + 1, math.MaxInt} {
		thermal.After([]api.Zone{{Temp: math.MaxInt, Leak: math.MaxInt}, {}}, []int{1, 1}, math.MinInt, ticks)
		thermal.Peak(api.Zone{Temp: math.MinInt, Leak: math.MinInt}, math.MaxInt, math.MaxInt, ticks)
	}
}
