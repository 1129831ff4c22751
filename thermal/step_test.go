package thermal_test

import (
	"math"
	"math/rand"
	"slices"
	"testing"

	"perigee/api"
	"perigee/thermal"
)

// TestStepExamples checks P11.2 for the chapter's examples.
func TestStepExamples(t *testing.T) {
	z := []api.Zone{{Temp: 300, Limit: 350, Leak: 10}}
	first, second := []api.Zone{{Temp: 276, Limit: 350, Leak: 10}}, []api.Zone{{Temp: 254, Limit: 350, Leak: 10}}
	checkStep(t, z, []int{5}, 4, first)
	checkStep(t, first, []int{5}, 4, second)
	checkAfter(t, z, []int{5}, 4, 2, second)
	checkStep(t, []api.Zone{zone(0, 7)}, nil, 4, []api.Zone{zone(1, 7)})
}

// TestStepLoss checks the loss (P11.2) in surroundings that are colder and warmer than the zone, for differences that Leak divides and their neighbours.
func TestStepLoss(t *testing.T) {
	for _, c := range []struct{ difference, leak, loss int }{
		{0, 1, 0}, {1, 1, 1}, {-1, 1, -1}, {1000, 1, 1000}, {-1000, 1, -1000},
		{0, 10, 0}, {1, 10, 0}, {9, 10, 0}, {10, 10, 1}, {11, 10, 1}, {19, 10, 1}, {20, 10, 2}, {296, 10, 29}, {300, 10, 30},
		{-1, 10, -1}, {-9, 10, -1}, {-10, 10, -1}, {-11, 10, -2}, {-19, 10, -2}, {-20, 10, -2}, {-21, 10, -3}, {-296, 10, -30}, {-300, 10, -30},
		{4, 7, 0}, {-4, 7, -1}, {999, 1000, 0}, {1000, 1000, 1}, {-999, 1000, -1}, {-1000, 1000, -1}, {-1001, 1000, -2}, {-2000, 1000, -2},
	} {
		for _, space := range []int{0, 1, -1, 4, 500, -500, 900000, -900000} {
			temp := space + c.difference
			checkTick(t, zone(temp, c.leak), 0, space, temp-c.loss)
			checkTick(t, zone(temp, c.leak), 77, space, temp+77-c.loss)
			checkTick(t, zone(temp, c.leak), -77, space, temp-77-c.loss)
		}
	}
	for _, leak := range []int{1, 2, 3, 7, 999, 1000} {
		checkTick(t, zone(warm, leak), 0, -warm, warm-2*warm/leak)
		checkTick(t, zone(-warm, leak), 0, warm, -warm+(2*warm+leak-1)/leak)
	}
}

// TestStepLeaks checks the loss (P11.2) for each Leak, with differences around all multiples of it from -2 to 2 times.
func TestStepLeaks(t *testing.T) {
	for leak := 1; leak <= 1000; leak++ {
		for n := -2; n <= 2; n++ {
			for _, space := range []int{-3, 0, 50000} {
				at := space + n*leak
				for i, z := range thermal.Step([]api.Zone{zone(at-1, leak), zone(at, leak), zone(at+leak-1, leak)}, nil, space) {
					want := []int{at - 1 - (n - 1), at - n, at + leak - 1 - n}[i]
					if z != zone(want, leak) {
						t.Errorf("difference %d, Leak %d: zone %d becomes %v, want the Temp %d", n*leak, leak, i, z, want)
					}
				}
			}
		}
	}
}

// TestStepHeat checks P11.2 for heat that has fewer or more elements than there are zones.
func TestStepHeat(t *testing.T) {
	z := []api.Zone{zone(100, 10), zone(100, 10), zone(100, 10)}
	for _, c := range []struct{ heat, want []int }{
		{nil, []int{90, 90, 90}}, {[]int{1}, []int{91, 90, 90}}, {[]int{1, 2}, []int{91, 92, 90}}, {[]int{1, 2, 3}, []int{91, 92, 93}},
		{[]int{1, 2, 3, 4}, []int{91, 92, 93}}, {[]int{1, 2, -3, 4, 5, 6}, []int{91, 92, 87}}, {[]int{0, 0, 8}, []int{90, 90, 98}},
		{[]int{-warm, warm, 0, warm}, []int{90 - warm, warm, 90}},
	} {
		var want []api.Zone
		for _, temp := range c.want {
			want = append(want, zone(temp, 10))
		}
		checkStep(t, z, c.heat, 0, want)
		checkStep(t, z[:2], c.heat, 0, want[:2])
		checkStep(t, nil, c.heat, 0, nil)
	}
}

// TestStepLimits checks P11.2 for temperatures at the limits at which they are kept, that just reach them, and that are beyond them by 1 or more.
func TestStepLimits(t *testing.T) {
	for _, c := range []struct{ temp, leak, heat, space, want int }{
		{warm, 1000, warm, 0, warm}, {warm, 1000, 1000, 0, warm}, {warm, 1000, 1001, 0, warm}, {warm, 1000, 999, 0, warm - 1}, {warm, 1, 0, warm, warm}, {warm, 1, 1, warm, warm}, {warm, 1, -1, warm, warm - 1},
		{warm - 5, 1, 5, warm - 5, warm}, {warm - 5, 1, 4, warm - 5, warm - 1}, {warm - 5, 1, 6, warm - 5, warm}, {warm - 5, 1, 7, warm - 5, warm}, {0, 1, warm, 0, warm}, {0, 1, warm, 1, warm}, {0, 1, warm, -1, warm - 1},
		{-warm, 1000, -warm, 0, -warm}, {-warm, 1000, -1000, 0, -warm}, {-warm, 1000, -1001, 0, -warm}, {-warm, 1000, -999, 0, 1 - warm}, {-warm, 1, 0, -warm, -warm}, {-warm, 1, -1, -warm, -warm}, {-warm, 1, 1, -warm, 1 - warm},
		{5 - warm, 1, -5, 5 - warm, -warm}, {5 - warm, 1, -4, 5 - warm, 1 - warm}, {5 - warm, 1, -6, 5 - warm, -warm}, {5 - warm, 1, -7, 5 - warm, -warm}, {0, 1, -warm, 0, -warm}, {0, 1, -warm, -1, -warm}, {0, 1, -warm, 1, 1 - warm},
		{warm, 1, warm, -warm, 0}, {-warm, 1, -warm, warm, 0}, {warm, 1, warm, warm, warm}, {-warm, 1, -warm, -warm, -warm}, {warm, 2, -warm, -warm, -warm}, {-warm, 2, warm, warm, warm}, {warm, 2, 1 - warm, -warm, 1 - warm}, {-warm, 2, warm - 1, warm, warm - 1},
	} {
		checkTick(t, zone(c.temp, c.leak), c.heat, c.space, c.want)
	}
}

// TestStepFields checks that Limit and Leak of a zone change neither the temperature of another one nor themselves (P11.2), also if the Temp passes Limit.
func TestStepFields(t *testing.T) {
	for _, limit := range []int{-warm, -1, 0, 99, 100, 101, 105, warm} {
		z := []api.Zone{{Temp: 100, Limit: limit, Leak: 5}, {Temp: 100, Limit: -limit, Leak: 50}}
		checkStep(t, z, []int{25, 25}, 0, []api.Zone{{Temp: 105, Limit: limit, Leak: 5}, {Temp: 123, Limit: -limit, Leak: 50}})
		checkAfter(t, z, []int{-80, 80}, 0, 2, []api.Zone{{Temp: -80, Limit: limit, Leak: 5}, {Temp: 255, Limit: -limit, Leak: 50}})
	}
}

// TestStepDefinition compares Step with the chapter's definition (P11.2) for random zones, heat and surroundings.
func TestStepDefinition(t *testing.T) {
	r := rand.New(rand.NewSource(112))
	colder, warmer, kept := 0, 0, 0
	for range 30000 {
		z, heat, space := someZones(r, 9), someHeat(r, 11), someTemp(r)
		want := wantAfter(z, heat, space, 1)
		checkStep(t, z, heat, space, want)
		for i := range z {
			switch {
			case want[i].Temp == z[i].Temp:
			case want[i].Temp == warm || want[i].Temp == -warm:
				kept++
			case want[i].Temp > z[i].Temp:
				warmer++
			default:
				colder++
			}
		}
	}
	if colder < 20000 || warmer < 20000 || kept < 5000 {
		t.Errorf("the steps are one-sided: %d colder, %d warmer, %d kept at a limit", colder, warmer, kept)
	}
}

// next returns the temperature of a zone after a tick.
func next(z api.Zone, heat, space int) int {
	return thermal.Step([]api.Zone{z}, []int{heat}, space)[0].Temp
}

// TestMonotone checks P11.6 for random zones: one that is warmer, receives more heat or is in warmer surroundings is not colder after a tick.
func TestMonotone(t *testing.T) {
	r := rand.New(rand.NewSource(1161))
	more := func(n int) int { return min(warm, n+[]int{0, 1, r.Intn(20), r.Intn(2 * warm)}[r.Intn(4)]) }
	strictly := 0
	for range 50000 {
		v, heat, space := someZone(r), someTemp(r)/max(1, r.Intn(2000)), someTemp(r)
		w, higher, warmer := v, more(heat), more(space)
		w.Temp = more(v.Temp)
		low, high := next(v, heat, space), next(w, higher, warmer)
		for _, temp := range []int{next(w, heat, space), next(v, higher, space), next(v, heat, warmer), high} {
			if temp < low {
				t.Errorf("%v with %d in %d becomes %d, but with one of %v, %d and %d it becomes %d", v, heat, space, low, w, higher, warmer, temp)
			}
		}
		if low < high {
			strictly++
		}
	}
	if strictly < 10000 {
		t.Errorf("only %d of the zones differ after the tick", strictly)
	}
}

// TestDifferences checks P11.6 for random pairs of temperatures: their difference keeps its sign or becomes 0, and does not grow.
func TestDifferences(t *testing.T) {
	r := rand.New(rand.NewSource(1162))
	became := map[string]int{}
	for range 50000 {
		v, heat, space := someZone(r), someTemp(r)/max(1, r.Intn(2000)), someTemp(r)
		w := v
		w.Temp = min(warm, v.Temp+[]int{r.Intn(4), r.Intn(3000), r.Intn(warm)}[r.Intn(3)])
		before, after := w.Temp-v.Temp, next(w, heat, space)-next(v, heat, space)
		if after < 0 || after > before {
			t.Errorf("the difference of %v and %v with %d in %d becomes %d", v, w, heat, space, after)
		}
		switch {
		case before == 0:
		case after == 0:
			became["0"]++
		case after < before:
			became["less"]++
		default:
			became["the same"]++
		}
	}
	for _, s := range []string{"0", "less", "the same"} {
		if became[s] < 3000 {
			t.Error("the differences are one-sided:", became)
		}
	}
}

// TestDifferencesOfOne checks P11.6 for all pairs of neighbouring temperatures in a range, for which any two others follow.
func TestDifferencesOfOne(t *testing.T) {
	for _, leak := range []int{1, 2, 3, 7, 10, 999, 1000} {
		last := math.MinInt
		for temp := -2500; temp <= 2500; temp++ {
			after := next(zone(temp, leak), 3, 4)
			if last != math.MinInt && after != last && after != last+1 {
				t.Errorf("Leak %d: the Temps %d and %d become %d and %d", leak, temp-1, temp, last, after)
			}
			last = after
		}
	}
}

// TestStepNumber checks P11.2 for more zones than a valid list has: Step takes each as it is.
func TestStepNumber(t *testing.T) {
	z := slices.Repeat([]api.Zone{zone(100, 10), zone(0, 10)}, 50)
	checkStep(t, z, nil, 50, slices.Repeat([]api.Zone{zone(95, 10), zone(5, 10)}, 50))
}
