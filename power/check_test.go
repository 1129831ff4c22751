package power_test

import (
	"math"
	"math/rand"
	"testing"

	"perigee/api"
	"perigee/power"
)

// TestCheckBattery checks P10.1 for batteries: each field at its bounds and just beyond them, and numbers of any size.
func TestCheckBattery(t *testing.T) {
	for _, b := range []api.Battery{
		{}, battery(1, 0, 0), battery(1, 1, 0), battery(1, 0, 1), battery(1, 1, 1), battery(100, 50, 20), battery(100, 20, 50),
		battery(most, 0, 0), battery(most, most, 0), battery(most, 0, most), battery(most, most, most), battery(most-1, most-1, most-1), battery(most, 1, most-1),
	} {
		checkErr(t, b, nil, api.OK)
		checkErr(t, b, []api.Load{vital(1, 1)}, api.OK)
	}
	for _, b := range []api.Battery{
		battery(-1, 0, 0), battery(-1, -1, 0), battery(-1, 0, -1), battery(-1, -1, -1), battery(0, 1, 0), battery(0, 0, 1), battery(0, -1, 0), battery(0, 0, -1),
		battery(100, 101, 0), battery(100, -1, 0), battery(100, 0, 101), battery(100, 0, -1), battery(100, 101, 101), battery(100, 50, -1), battery(100, -1, 50),
		battery(most+1, 0, 0), battery(most+1, most, most), battery(most+1, most+1, most+1), battery(most, most+1, 0), battery(most, 0, most+1), battery(most-1, most, 0), battery(most-1, 0, most),
	} {
		checkErr(t, b, nil, api.ErrRange)
		checkErr(t, b, []api.Load{vital(1, 1)}, api.ErrRange)
	}
	for _, n := range extremes {
		checkErr(t, battery(n, 0, 0), nil, api.ErrRange)
		checkErr(t, battery(n, n, n), nil, api.ErrRange)
		checkErr(t, battery(most, n, 0), nil, api.ErrRange)
		checkErr(t, battery(most, 0, n), nil, api.ErrRange)
	}
}

// manyLoads returns n valid loads.
func manyLoads(n int) []api.Load {
	var loads []api.Load
	for i := range n {
		loads = append(loads, api.Load{ID: i, Power: i, Essential: i%2 == 0})
	}
	return loads
}

// TestCheckLimit checks P10.1 for numbers of loads around 64.
func TestCheckLimit(t *testing.T) {
	b := battery(9, 5, 3)
	for n := range 65 {
		checkErr(t, b, manyLoads(n), api.OK)
	}
	for _, n := range []int{65, 66, 128, 1000} {
		checkErr(t, b, manyLoads(n), api.ErrLimit)
	}
}

// TestCheckLoads checks P10.1 for loads: Powers at their bounds and just beyond them, and equal IDs; any ID and any Priority is valid.
func TestCheckLoads(t *testing.T) {
	b := battery(9, 5, 3)
	for _, p := range []int{0, 1, most - 1, most} {
		checkErr(t, b, []api.Load{vital(1, p)}, api.OK)
		checkErr(t, b, []api.Load{other(1, p, 0)}, api.OK)
	}
	for _, p := range append([]int{-1, most + 1, -most, most * 2}, extremes...) {
		checkErr(t, b, []api.Load{vital(1, p)}, api.ErrRange)
		checkErr(t, b, []api.Load{other(1, p, 0)}, api.ErrRange)
		last := manyLoads(64)
		last[63].Power = p
		checkErr(t, b, last, api.ErrRange)
	}
	for _, n := range append([]int{-1, 0, 1, most + 1}, extremes...) {
		checkErr(t, b, []api.Load{other(n, 1, n), other(5, 1, n)}, api.OK)
		checkErr(t, b, []api.Load{other(n, 1, 2), vital(5, 1), vital(n, 3)}, api.ErrDup)
	}
	for i := range 64 {
		for _, j := range []int{0, 31, 63} {
			loads := manyLoads(64)
			loads[i].ID = loads[j].ID
			if i == j {
				checkErr(t, b, loads, api.OK)
			} else {
				checkErr(t, b, loads, api.ErrDup)
			}
		}
	}
}

// TestCheckOrder checks the order of the errors of P10.1: the battery, the number of loads, and then the Power and the ID of one load after the other.
func TestCheckOrder(t *testing.T) {
	good, bad := battery(9, 5, 3), battery(9, 10, 3)
	many := manyLoads(65)
	checkErr(t, bad, many, api.ErrRange)
	checkErr(t, bad, []api.Load{vital(1, 1), vital(1, 1)}, api.ErrRange)
	many[0].Power, many[2].ID = -1, 1
	checkErr(t, good, many, api.ErrLimit)
	for _, c := range []struct {
		loads []api.Load
		want  api.Errno
	}{
		{[]api.Load{vital(1, 1), vital(1, 1), vital(2, -1)}, api.ErrDup},
		{[]api.Load{vital(1, 1), vital(2, -1), vital(1, 1)}, api.ErrRange},
		{[]api.Load{vital(1, 1), vital(1, -1)}, api.ErrRange},
		{[]api.Load{vital(1, -1), vital(1, 1)}, api.ErrRange},
		{[]api.Load{vital(1, 1), vital(2, most+1), vital(2, 1)}, api.ErrRange},
		{[]api.Load{vital(1, 1), vital(2, 1), vital(2, 1), vital(3, most+1)}, api.ErrDup},
	} {
		checkErr(t, good, c.loads, c.want)
	}
}

// wantErr returns what Check returns, by the chapter's definitions.
func wantErr(b api.Battery, loads []api.Load) api.Errno {
	if b.Reserve < 0 || b.Reserve > b.Capacity || b.Capacity > 2147483647 || b.Charge < 0 || b.Charge > b.Capacity {
		return api.ErrRange
	}
	if len(loads) > 64 {
		return api.ErrLimit
	}
	seen := map[int]bool{}
	for _, l := range loads {
		if l.Power < 0 || l.Power > 2147483647 {
			return api.ErrRange
		}
		if seen[l.ID] {
			return api.ErrDup
		}
		seen[l.ID] = true
	}
	return api.OK
}

// TestCheckDefinition compares Check with the chapter's definition (P10.1) for random batteries and loads.
func TestCheckDefinition(t *testing.T) {
	r := rand.New(rand.NewSource(101))
	numbers := []int{-1, 0, 1, 2, 3, most - 1, most, most + 1, math.MinInt, math.MaxInt}
	some := func(rarely int) int {
		if r.Intn(rarely) > 0 {
			return r.Intn(3)
		}
		return numbers[r.Intn(len(numbers))]
	}
	found := map[api.Errno]int{}
	for range 20000 {
		b := battery(2+some(3), some(3), some(3))
		var loads []api.Load
		for range r.Intn(9) {
			loads = append(loads, api.Load{ID: r.Intn(40), Power: some(20), Priority: some(2), Essential: r.Intn(2) == 0})
		}
		if r.Intn(10) == 0 {
			loads = append(loads, manyLoads(57+r.Intn(8))...)
		}
		want := wantErr(b, loads)
		checkErr(t, b, loads, want)
		found[want]++
	}
	for _, e := range []api.Errno{api.OK, api.ErrRange, api.ErrLimit, api.ErrDup} {
		if found[e] < 200 {
			t.Error("the errors are one-sided:", found)
		}
	}
}

// TestEssential checks P10.3: no loads, loads of both sorts, and 64 loads of the greatest Power.
func TestEssential(t *testing.T) {
	checkEssential(t, nil, 0)
	checkEssential(t, []api.Load{other(1, 5, 0), other(2, most, 9)}, 0)
	checkEssential(t, []api.Load{vital(1, 5)}, 5)
	checkEssential(t, []api.Load{vital(3, 5), other(1, 100, 0), vital(2, 7), vital(9, 0), other(4, 1000, -5), vital(-1, most)}, most+12)
	var all, half []api.Load
	for i := range 64 {
		all = append(all, vital(i, most))
		half = append(half, api.Load{ID: i, Power: most, Essential: i%2 == 1, Priority: -i})
	}
	checkErr(t, battery(0, 0, 0), all, api.OK)
	checkEssential(t, all, 137438953408)
	checkEssential(t, half, 68719476704)
}

// TestEssentialParts checks P10.3 for random loads: the result is that of the loads one by one, and that of both parts of a list together.
func TestEssentialParts(t *testing.T) {
	r := rand.New(rand.NewSource(103))
	for range 2000 {
		loads := someLoads(r, 64, most)
		sum := 0
		for _, l := range loads {
			if l.Essential {
				sum += l.Power
			}
		}
		checkEssential(t, loads, sum)
		i := r.Intn(len(loads) + 1)
		checkEssential(t, loads[:i], sum-power.Essential(loads[i:]))
	}
}
