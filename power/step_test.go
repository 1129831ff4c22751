package power_test

import (
	"math"
	"math/rand"
	"slices"
	"testing"

	"perigee/api"
	"perigee/power"
)

// TestStepExample checks P10.2 for the chapter's example 1.
func TestStepExample(t *testing.T) {
	loads := []api.Load{vital(1, 15), other(2, 20, 5), other(3, 10, 7)}
	checkStep(t, battery(100, 50, 20), 10, loads, 35, api.Supply{Gained: 10, Used: 25, Served: []int{1, 3}})
}

// TestStepGain checks P10.2 for gains that the battery stores, that just fill it, and that spill, without loads and with one that uses what was stored.
func TestStepGain(t *testing.T) {
	for _, c := range []struct{ capacity, charge, gain, gained, spilled int }{
		{100, 50, 0, 0, 0}, {100, 50, 1, 1, 0}, {100, 50, 49, 49, 0}, {100, 50, 50, 50, 0}, {100, 50, 51, 50, 1}, {100, 50, 1000, 50, 950},
		{100, 100, 0, 0, 0}, {100, 100, 1, 0, 1}, {100, 0, 100, 100, 0}, {100, 0, 101, 100, 1}, {0, 0, 0, 0, 0}, {0, 0, 7, 0, 7},
		{most, 0, most, most, 0}, {most, 1, most, most - 1, 1}, {most, most, most, 0, most}, {most - 1, 0, most, most - 1, 1}, {0, 0, most, 0, most},
	} {
		full := c.charge + c.gained
		checkStep(t, battery(c.capacity, c.charge, 0), c.gain, nil, full, api.Supply{Gained: c.gained, Spilled: c.spilled})
		checkStep(t, battery(c.capacity, c.charge, c.capacity), c.gain, nil, full, api.Supply{Gained: c.gained, Spilled: c.spilled})
		// The gain of the tick is there before its loads are served, and what they use makes no room for what was spilled.
		checkStep(t, battery(c.capacity, c.charge, 0), c.gain, []api.Load{vital(4, full)}, 0, api.Supply{Gained: c.gained, Spilled: c.spilled, Used: full, Served: []int{4}})
		checkStep(t, battery(c.capacity, c.charge, 0), c.gain, []api.Load{other(4, full, 0)}, 0, api.Supply{Gained: c.gained, Spilled: c.spilled, Used: full, Served: []int{4}})
	}
}

// TestStepEssential checks P10.2 for an essential load: a charge that equals its Power and one that is 1 less, whatever Reserve is.
func TestStepEssential(t *testing.T) {
	for _, p := range []int{0, 1, 30, most} {
		for _, reserve := range []int{0, 1, p / 2, p} {
			reserve = min(reserve, p)
			checkStep(t, battery(p, p, reserve), 0, []api.Load{vital(8, p)}, 0, api.Supply{Used: p, Served: []int{8}})
			if p > 0 {
				checkStep(t, battery(p, p-1, reserve), 0, []api.Load{vital(8, p)}, p-1, api.Supply{Brownout: true})
				checkStep(t, battery(p, p-1, reserve), 1, []api.Load{vital(8, p)}, 0, api.Supply{Gained: 1, Used: p, Served: []int{8}})
				checkStep(t, battery(p-1, p-1, 0), 1, []api.Load{vital(8, p)}, p-1, api.Supply{Spilled: 1, Brownout: true})
			}
		}
	}
}

// TestStepReserve checks P10.2 for a load that is not essential: a charge that minus its Power equals Reserve and one that is 1 less; that it is not served is no brownout.
func TestStepReserve(t *testing.T) {
	for _, p := range []int{0, 1, 30, most - 20} {
		served := api.Supply{Used: p, Served: []int{8}}
		checkStep(t, battery(most, p+20, 20), 0, []api.Load{other(8, p, 0)}, 20, served)
		checkStep(t, battery(most, p+19, 20), 0, []api.Load{other(8, p, 0)}, p+19, api.Supply{})
		checkStep(t, battery(most, p, 0), 0, []api.Load{other(8, p, 0)}, 0, served)
		checkStep(t, battery(most, p+19, 20), 1, []api.Load{other(8, p, 0)}, 20, api.Supply{Gained: 1, Used: p, Served: []int{8}})
	}
	checkStep(t, battery(most, most, most), 0, []api.Load{other(8, 0, 0)}, most, api.Supply{Served: []int{8}})
	checkStep(t, battery(most, most, most), 0, []api.Load{other(8, 1, 0)}, most, api.Supply{})
	checkStep(t, battery(most, most-1, 0), 0, []api.Load{other(8, most, 0)}, most-1, api.Supply{})
	checkStep(t, battery(9, 0, 0), 0, []api.Load{other(8, 1, 0)}, 0, api.Supply{})
}

// TestStepOrder checks the order of service (P10.2): the essential loads by their IDs, whatever their Priorities are, and the others by decreasing Priority and increasing ID.
func TestStepOrder(t *testing.T) {
	loads := []api.Load{
		{ID: 5, Priority: 9, Essential: true}, {ID: -3, Priority: -9, Essential: true}, {ID: math.MaxInt, Priority: math.MaxInt, Essential: true}, {ID: math.MinInt, Priority: math.MinInt, Essential: true}, {ID: 0, Essential: true},
		{ID: 1, Priority: 3}, {ID: 2, Priority: math.MinInt}, {ID: 3, Priority: math.MaxInt}, {ID: 4, Priority: 3}, {ID: -7, Priority: 3}, {ID: 6, Priority: -1}, {ID: 7}, {ID: -8, Priority: math.MinInt + 1}, {ID: math.MaxInt - 1, Priority: 3}, {ID: math.MinInt + 1, Priority: 3},
	}
	want := []int{math.MinInt, -3, 0, 5, math.MaxInt, 3, math.MinInt + 1, -7, 1, 4, math.MaxInt - 1, 7, 6, -8, 2}
	r := rand.New(rand.NewSource(1020))
	for range 500 {
		r.Shuffle(len(loads), func(i, j int) { loads[i], loads[j] = loads[j], loads[i] })
		checkStep(t, battery(1, 1, 1), 0, loads, 1, api.Supply{Served: want})
	}
}

// TestStepSkips checks P10.2 for loads that are not served between two that are.
func TestStepSkips(t *testing.T) {
	loads := []api.Load{vital(1, 10), vital(2, 50), vital(3, 20), other(4, 30, 2), other(5, 5, 1), other(6, 0, 0)}
	checkStep(t, battery(100, 79, 14), 0, loads, 14, api.Supply{Used: 65, Served: []int{1, 2, 5, 6}, Brownout: true})
	checkStep(t, battery(100, 79, 15), 0, loads, 19, api.Supply{Used: 60, Served: []int{1, 2, 6}, Brownout: true})
	checkStep(t, battery(100, 59, 15), 0, loads, 24, api.Supply{Used: 35, Served: []int{1, 3, 5, 6}, Brownout: true})
	checkStep(t, battery(100, 60, 0), 0, loads, 0, api.Supply{Used: 60, Served: []int{1, 2, 6}, Brownout: true})
	checkStep(t, battery(100, 80, 0), 0, loads, 0, api.Supply{Used: 80, Served: []int{1, 2, 3, 6}})
	checkStep(t, battery(100, 100, 15), 0, loads, 15, api.Supply{Used: 85, Served: []int{1, 2, 3, 5, 6}})
	checkStep(t, battery(100, 100, 16), 0, loads, 20, api.Supply{Used: 80, Served: []int{1, 2, 3, 6}})
	checkStep(t, battery(100, 80, 1), 0, loads, 0, api.Supply{Used: 80, Served: []int{1, 2, 3}})
	checkStep(t, battery(100, 5, 0), 0, loads, 0, api.Supply{Used: 5, Served: []int{5, 6}, Brownout: true})
}

// TestStepTies checks P10.2 for equal Priorities: the one with the lesser ID gets what suffices for one of them.
func TestStepTies(t *testing.T) {
	loads := []api.Load{other(9, 30, 4), other(7, 20, 4), other(8, 20, 4), vital(10, 1)}
	checkStep(t, battery(100, 41, 20), 0, loads, 20, api.Supply{Used: 21, Served: []int{10, 7}})
	checkStep(t, battery(100, 61, 20), 0, loads, 20, api.Supply{Used: 41, Served: []int{10, 7, 8}})
	checkStep(t, battery(100, 61, 21), 0, loads, 40, api.Supply{Used: 21, Served: []int{10, 7}})
	checkStep(t, battery(100, 41, 40), 0, []api.Load{other(2, 1, 0), other(1, 1, 0)}, 40, api.Supply{Used: 1, Served: []int{1}})
	checkStep(t, battery(100, 1, 0), 0, []api.Load{vital(2, 1), vital(1, 1)}, 0, api.Supply{Used: 1, Served: []int{1}, Brownout: true})
}

// TestStepGreatest checks P10.2 for values of 2147483647 and for 64 loads.
func TestStepGreatest(t *testing.T) {
	var loads []api.Load
	var ids []int
	for i := range 64 {
		loads = append(loads, other(i, most, -i))
		ids = append(ids, i)
	}
	checkStep(t, battery(most, most, 0), most, loads, 0, api.Supply{Used: most, Spilled: most, Served: []int{0}})
	checkStep(t, battery(most, 0, 0), most, loads, 0, api.Supply{Gained: most, Used: most, Served: []int{0}})
	checkStep(t, battery(most, most, 1), most, loads, most, api.Supply{Spilled: most})
	loads[9].Essential = true
	checkStep(t, battery(most, most, most), most, loads, 0, api.Supply{Used: most, Spilled: most, Served: []int{9}})
	checkStep(t, battery(most, most-1, 0), 0, loads, most-1, api.Supply{Brownout: true})
	for i := range loads {
		loads[i].Power = 1 << 25
	}
	checkStep(t, battery(most, most, 0), 0, loads[:63], most-63<<25, api.Supply{Used: 63 << 25, Served: append([]int{9}, slices.Delete(ids[:63:63], 9, 10)...)})
	loads[9].Essential = false
	checkStep(t, battery(most, most, 0), 1, loads, most-63<<25, api.Supply{Spilled: 1, Used: 63 << 25, Served: numbers(63)})
	loads[63].Power--
	checkStep(t, battery(most, most, 0), 1, loads, 0, api.Supply{Spilled: 1, Used: most, Served: numbers(64)})
}

// numbers returns the numbers from 0 to n - 1.
func numbers(n int) []int {
	var ids []int
	for i := range n {
		ids = append(ids, i)
	}
	return ids
}

// precedes tells whether load v is served before load w, by the chapter's definition.
func precedes(v, w api.Load) bool {
	switch {
	case v.Essential != w.Essential:
		return v.Essential
	case !v.Essential && v.Priority != w.Priority:
		return v.Priority > w.Priority
	}
	return v.ID < w.ID
}

// wantStep returns what Step returns, by the chapter's definition: load by load, the one of the rest that precedes all others.
func wantStep(b api.Battery, gain int, loads []api.Load) (int, api.Supply) {
	charge, s := b.Charge+gain, api.Supply{Gained: gain}
	if charge > b.Capacity {
		charge, s.Gained, s.Spilled = b.Capacity, b.Capacity-b.Charge, b.Charge+gain-b.Capacity
	}
	rest := slices.Clone(loads)
	for len(rest) > 0 {
		i := 0
		for j := range rest {
			if precedes(rest[j], rest[i]) {
				i = j
			}
		}
		l := rest[i]
		rest = slices.Delete(rest, i, i+1)
		if l.Essential && charge < l.Power {
			s.Brownout = true
		} else if l.Essential || charge-l.Power >= b.Reserve {
			charge -= l.Power
			s.Used += l.Power
			s.Served = append(s.Served, l.ID)
		}
	}
	return charge, s
}

// someStep returns random valid arguments of Step.
func someStep(r *rand.Rand) (api.Battery, int, []api.Load) {
	scale := []int{5, 40, 300, most}[r.Intn(4)]
	n := []int{2, 6, 12, 64}[r.Intn(4)]
	return someBattery(r, scale), upTo(r, scale), someLoads(r, n, max(1, scale/(1+r.Intn(n))))
}

// TestStepDefinition compares Step with the chapter's definition (P10.2) for random batteries, gains and loads.
func TestStepDefinition(t *testing.T) {
	r := rand.New(rand.NewSource(102))
	brownouts, partly := 0, 0
	for range 30000 {
		b, gain, loads := someStep(r)
		charge, s := wantStep(b, gain, loads)
		checkStep(t, b, gain, loads, charge, s)
		if s.Brownout {
			brownouts++
		}
		if len(s.Served) > 0 && len(s.Served) < len(loads) {
			partly++
		}
	}
	if brownouts < 3000 || brownouts > 27000 || partly < 3000 {
		t.Errorf("the steps are one-sided: %d brownouts, %d times some loads served", brownouts, partly)
	}
}

// TestConservation checks P10.6 for random steps: the charge changes by what was gained and used, stays from 0 to Capacity, and the gain is gained or spilled.
func TestConservation(t *testing.T) {
	r := rand.New(rand.NewSource(106))
	for range 30000 {
		b, gain, loads := someStep(r)
		after, s := power.Step(b, gain, loads)
		if after.Charge != b.Charge+s.Gained-s.Used || after.Charge < 0 || after.Charge > b.Capacity || s.Gained+s.Spilled != gain || s.Gained < 0 || s.Spilled < 0 {
			t.Errorf("Step(%v, %d, %v) = %v, %+v", b, gain, loads, after, s)
		}
		if after.Capacity != b.Capacity || after.Reserve != b.Reserve {
			t.Errorf("Step(%v, %d, %v) = %v", b, gain, loads, after)
		}
		if used := usedBy(s.Served, loads); used != s.Used {
			t.Errorf("Step(%v, %d, %v): %+v, but the loads served use %d", b, gain, loads, s, used)
		}
	}
}

// usedBy returns the sum of the Powers of the loads with some IDs.
func usedBy(ids []int, loads []api.Load) int {
	sum := 0
	for _, l := range loads {
		if slices.Contains(ids, l.ID) {
			sum += l.Power
		}
	}
	return sum
}

// TestReserveKept checks P10.7 for random steps: the charge is at least Reserve after a load was served that is not essential, and the essential loads are served as if the others were not there.
func TestReserveKept(t *testing.T) {
	r := rand.New(rand.NewSource(107))
	kept := 0
	for range 30000 {
		b, gain, loads := someStep(r)
		after, s := power.Step(b, gain, loads)
		alone := slices.DeleteFunc(slices.Clone(loads), func(l api.Load) bool { return !l.Essential })
		_, few := power.Step(b, gain, alone)
		n := min(len(few.Served), len(s.Served))
		if !slices.Equal(few.Served, s.Served[:n]) || few.Brownout != s.Brownout {
			t.Errorf("Step(%v, %d, %v): %+v, but with its essential loads alone %+v", b, gain, loads, s, few)
		}
		for _, id := range s.Served[n:] {
			kept++
			if i := slices.IndexFunc(loads, func(l api.Load) bool { return l.ID == id }); loads[i].Essential || after.Charge < b.Reserve {
				t.Errorf("Step(%v, %d, %v) = %v, %+v", b, gain, loads, after, s)
			}
		}
	}
	if kept < 10000 {
		t.Errorf("only %d loads were served that are not essential", kept)
	}
}
