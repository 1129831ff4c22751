package thermal_test

import (
	"math"
	"math/rand"
	"slices"
	"testing"

	"perigee/api"
	"perigee/thermal"
)

// TestAfterTicks checks P11.3 for ticks that are not positive, 1, and more.
func TestAfterTicks(t *testing.T) {
	z := []api.Zone{{Temp: 300, Limit: 350, Leak: 10}, {Temp: 0, Limit: -9, Leak: 7}}
	heat := []int{5, 1}
	for _, ticks := range []int{0, -1, -2, -top, math.MinInt} {
		checkAfter(t, z, heat, 4, ticks, z)
		checkAfter(t, z, nil, 4, ticks, z)
		checkAfter(t, nil, heat, 4, ticks, nil)
	}
	for ticks, temps := range [][]int{{300, 0}, {276, 2}, {254, 4}, {234, 5}, {216, 6}, {200, 7}, {186, 8}, {173, 9}} {
		checkAfter(t, z, heat, 4, ticks, []api.Zone{{Temp: temps[0], Limit: 350, Leak: 10}, {Temp: temps[1], Limit: -9, Leak: 7}})
	}
}

// TestAfterMany checks P11.3 for up to 1000000 ticks: zones that come to rest from above and from below, at once and late, and zones that are kept at a limit.
func TestAfterMany(t *testing.T) {
	for _, ticks := range []int{40000, top - 1, top} {
		checkAfter(t, []api.Zone{zone(9, 3)}, []int{2}, 0, ticks, []api.Zone{zone(8, 3)})
		checkAfter(t, []api.Zone{zone(-9, 3)}, []int{2}, 0, ticks, []api.Zone{zone(6, 3)})
		checkAfter(t, []api.Zone{zone(300, 10), zone(0, 10)}, []int{5, 5}, 4, ticks, []api.Zone{zone(63, 10), zone(54, 10)})
		checkAfter(t, []api.Zone{zone(warm, 1000), zone(-warm, 1000)}, nil, 0, ticks, []api.Zone{zone(999, 1000), zone(0, 1000)})
		checkAfter(t, []api.Zone{zone(-warm, 1000), zone(warm, 1000)}, []int{1000, -1000}, 0, ticks, []api.Zone{zone(warm, 1000), zone(-warm+999, 1000)})
		checkAfter(t, []api.Zone{zone(-warm, 1000), zone(warm, 1000)}, []int{warm, -warm}, 0, ticks, []api.Zone{zone(warm, 1000), zone(-warm, 1000)})
		checkAfter(t, []api.Zone{zone(warm, 1), zone(-warm, 1)}, []int{3, -3}, 7, ticks, []api.Zone{zone(10, 1), zone(4, 1)})
	}
	r := rand.New(rand.NewSource(1131))
	for range 30 {
		z, heat, space, ticks := someZones(r, 2), someHeat(r, 2), someTemp(r), top-r.Intn(3)*r.Intn(top)
		ticks = max(ticks, top/10)
		checkAfter(t, z, heat, space, ticks, wantAfter(z, heat, space, ticks))
	}
}

// slow returns a random zone, with heat and surroundings in which it neither rests soon nor is kept at a limit soon.
func slow(r *rand.Rand) (z api.Zone, heat, space int) {
	z = api.Zone{Temp: someTemp(r) / 2, Limit: someTemp(r), Leak: 1 + r.Intn(1000)}
	return z, r.Intn(2001) - 1000, r.Intn(2*warm/5) - warm/5
}

// TestAfterDefinition compares After with the chapter's definition (P11.3) for random zones, heat and ticks.
func TestAfterDefinition(t *testing.T) {
	r := rand.New(rand.NewSource(113))
	moving, resting := 0, 0
	for range 10000 {
		z, heat, space := someZones(r, 4), someHeat(r, 5), someTemp(r)
		if r.Intn(2) == 0 {
			v, h, s := slow(r)
			z, heat, space = []api.Zone{v}, []int{h}, s
		}
		ticks := r.Intn(1 << r.Intn(12))
		want := wantAfter(z, heat, space, ticks)
		checkAfter(t, z, heat, space, ticks, want)
		if slices.Equal(want, thermal.Step(want, heat, space)) {
			resting++
		} else {
			moving++
		}
	}
	if moving < 1500 || resting < 1500 {
		t.Errorf("the ticks are one-sided: %d times zones are moving after them, %d times all are at rest", moving, resting)
	}
}

// TestAfterIsSteps checks P11.3 for random zones: After is one Step after the other.
func TestAfterIsSteps(t *testing.T) {
	r := rand.New(rand.NewSource(1132))
	for range 300 {
		v, h, space := slow(r)
		z, heat := append(someZones(r, 3), v), append(someHeat(r, 3), h)
		want := z
		for ticks := range 60 {
			checkAfter(t, z, heat, space, ticks, want)
			want = thermal.Step(want, heat, space)
		}
	}
}

// TestSplitTicks checks P11.7 for random zones: After a + b ticks is After of After, also if one of them is 0 and if they are many.
func TestSplitTicks(t *testing.T) {
	r := rand.New(rand.NewSource(1171))
	for range 3000 {
		v, h, space := slow(r)
		z, heat := append(someZones(r, 3), v), append(someHeat(r, 3), h)
		a, b := r.Intn(1<<r.Intn(13)), r.Intn(1<<r.Intn(13))
		if r.Intn(5) == 0 {
			a, b = r.Intn(top/2), r.Intn(top/2)
		}
		whole := thermal.After(z, heat, space, a+b)
		for _, parts := range [][2]int{{a, b}, {b, a}, {a + b, 0}, {0, a + b}} {
			checkAfter(t, thermal.After(z, heat, space, parts[0]), heat, space, parts[1], whole)
		}
	}
}

// TestSplitZones checks P11.7 for random lists of zones: After of a list consists of After of its parts, wherever it is divided, also if the heat has fewer or more elements.
func TestSplitZones(t *testing.T) {
	r := rand.New(rand.NewSource(1172))
	for range 2000 {
		z, heat, space, ticks := someZones(r, 8), someHeat(r, 10), someTemp(r), r.Intn(1<<r.Intn(12))
		whole := thermal.After(z, heat, space, ticks)
		for i := range len(z) + 1 {
			checkAfter(t, z[:i], part(heat, 0, i), space, ticks, whole[:i])
			checkAfter(t, z[i:], part(heat, i, len(heat)), space, ticks, whole[i:])
		}
	}
}

// TestOtherZones checks P11.7 for a zone among others: it has the same course whatever the others and their heat are.
func TestOtherZones(t *testing.T) {
	r := rand.New(rand.NewSource(1173))
	for range 2000 {
		v, h, space := slow(r)
		ticks := r.Intn(300)
		want := wantAfter([]api.Zone{v}, []int{h}, space, ticks)[0]
		for i := range 8 {
			z, heat := make([]api.Zone, 8), make([]int, 8)
			for j := range z {
				z[j], heat[j] = someZone(r), someTemp(r)
			}
			z[i], heat[i] = v, h
			if got := thermal.After(z, heat, space, ticks); len(got) != 8 || got[i] != want {
				t.Errorf("After(%v, %v, %d, %d) = %v, want zone %d to be %v", z, heat, space, ticks, got, i, want)
			}
		}
	}
}

// checkRest checks P11.9 for a zone that does not change in a tick: it does not in any later one.
func checkRest(t *testing.T, z api.Zone, heat, space int) {
	t.Helper()
	for _, ticks := range []int{1, 2, 3, 1000, top} {
		checkAfter(t, []api.Zone{z}, []int{heat}, space, ticks, []api.Zone{z})
		checkPeak(t, z, heat, space, ticks, z.Temp)
	}
}

// TestRest checks P11.9 for zones at rest, at the ends of the ranges of temperatures with the same loss, and for zones that are kept at a limit.
func TestRest(t *testing.T) {
	for _, c := range []struct{ temp, leak, heat, space int }{
		{0, 1, 0, 0}, {4, 7, 0, 4}, {10, 7, 0, 4}, {3, 7, -1, 4}, {-3, 7, -1, 4}, {54, 10, 5, 4}, {63, 10, 5, 4}, {11, 1, 7, 4}, {-3, 1, -7, 4},
		{warm, 1000, 1000, 0}, {warm, 1000, 1001, 0}, {warm, 1000, warm, 0}, {warm, 1, warm, 0}, {warm, 1, 0, warm}, {warm, 1, 1, warm},
		{-warm, 1000, -1000, 0}, {-warm, 1000, -1001, 0}, {-warm, 1000, -warm, 0}, {-warm, 1, -warm, 0}, {-warm, 1, 0, -warm}, {-warm, 1, -1, -warm},
	} {
		checkRest(t, zone(c.temp, c.leak), c.heat, c.space)
	}
	for _, c := range []struct{ temp, leak, heat, space, want int }{
		{11, 7, 0, 4, 10}, {3, 7, 0, 4, 4}, {-4, 7, -1, 4, -3}, {4, 7, -1, 4, 3}, {64, 10, 5, 4, 63}, {53, 10, 5, 4, 54}, {12, 1, 7, 4, 11}, {10, 1, 7, 4, 11},
		{warm, 1000, 999, 0, warm - 1}, {-warm, 1000, -999, 0, 1 - warm},
	} {
		checkTick(t, zone(c.temp, c.leak), c.heat, c.space, c.want)
		checkAfter(t, []api.Zone{zone(c.temp, c.leak)}, []int{c.heat}, c.space, 2, []api.Zone{zone(wantNext(zone(c.want, c.leak), c.heat, c.space), c.leak)})
	}
}

// TestRestDefinition checks P11.9 for random zones: one is at rest exactly if its heat equals its loss, or it is kept at a limit.
func TestRestDefinition(t *testing.T) {
	r := rand.New(rand.NewSource(119))
	balanced, kept, moving := 0, 0, 0
	for range 20000 {
		z, heat, space := someZone(r), someTemp(r), someTemp(r)
		switch r.Intn(4) {
		case 0:
			z.Temp = (2*r.Intn(2) - 1) * warm
		case 1, 2:
			heat = max(-warm, min(warm, wantLoss(z, space)+r.Intn(3)/2))
		}
		loss := wantLoss(z, space)
		switch {
		case heat == loss:
			balanced++
			checkRest(t, z, heat, space)
		case z.Temp == warm && heat > loss || z.Temp == -warm && heat < loss:
			kept++
			checkRest(t, z, heat, space)
		default:
			moving++
			if temp := next(z, heat, space); temp == z.Temp {
				t.Errorf("%v, whose loss is %d, is at rest with %d in %d", z, loss, heat, space)
			}
		}
	}
	if balanced < 3000 || kept < 1000 || moving < 3000 {
		t.Errorf("the zones are one-sided: %d with a loss that equals the heat, %d kept at a limit, %d not at rest", balanced, kept, moving)
	}
}
