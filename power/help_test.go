package power_test

import (
	"cmp"
	"math"
	"math/rand"
	"slices"
	"testing"

	"perigee/api"
	"perigee/orbit"
	"perigee/power"
)

const (
	top  = api.MaxTick
	most = api.MaxValue
)

// extremes are numbers with which a careless sum, difference or opposite overflows, and their neighbours.
var extremes = []int{math.MinInt, math.MinInt + 1, math.MinInt + most, math.MaxInt - most, math.MaxInt - 1, math.MaxInt}

// battery returns a battery.
func battery(capacity, charge, reserve int) api.Battery {
	return api.Battery{Capacity: capacity, Charge: charge, Reserve: reserve}
}

// vital returns an essential load.
func vital(id, power int) api.Load { return api.Load{ID: id, Power: power, Essential: true} }

// other returns a load that is not essential.
func other(id, power, priority int) api.Load {
	return api.Load{ID: id, Power: power, Priority: priority}
}

// eclipse returns an eclipse window of a craft.
func eclipse(a, from, until int) api.Window {
	return api.Window{Kind: api.WinEclipse, A: a, From: from, Until: until}
}

// contact returns a contact window of a craft and station 0.
func contact(a, from, until int) api.Window {
	return api.Window{Kind: api.WinContact, A: a, From: from, Until: until, Rate: 1}
}

// cross returns a cross-link window of a craft and craft 11.
func cross(a, from, until int) api.Window {
	return api.Window{Kind: api.WinCross, A: a, B: 11, From: from, Until: until, Rate: 1}
}

// place returns an overflight window of a craft and region 0.
func place(a, from, until int) api.Window {
	return api.Window{Kind: api.WinPlace, A: a, From: from, Until: until}
}

// table returns the valid orbit table of some windows.
func table(t *testing.T, windows ...api.Window) []api.Window {
	t.Helper()
	windows = sorted(windows)
	if e := orbit.Check(windows); e != api.OK {
		t.Fatalf("the table %v is not valid: %d", windows, e)
	}
	return windows
}

// sorted returns some windows in the order of a table.
func sorted(windows []api.Window) []api.Window {
	windows = slices.Clone(windows)
	slices.SortFunc(windows, func(v, w api.Window) int {
		return cmp.Or(cmp.Compare(v.From, w.From), cmp.Compare(v.Kind, w.Kind), cmp.Compare(v.A, w.A))
	})
	return windows
}

// someTable returns a random valid table of at most n windows of the crafts 0 to 2 that are open at ticks before last only.
func someTable(r *rand.Rand, n, last int) []api.Window {
	var windows []api.Window
	for range r.Intn(n + 1) {
		from := r.Intn(last)
		until := from + 1 + r.Intn(min(last-from, 1+last/4))
		// Most windows are eclipses, most of them of craft 0.
		a := max(0, r.Intn(5)-2)
		w := []api.Window{eclipse(a, from, until), eclipse(a, from, until), eclipse(a, from, until), contact(a, from, until), cross(a, from, until), place(a, from, until)}[r.Intn(6)]
		if orbit.Check(sorted(append(windows, w))) == api.OK {
			windows = append(windows, w)
		}
	}
	return sorted(windows)
}

// upTo returns a random number from 0 to n, which is small, close to n, or of any size.
func upTo(r *rand.Rand, n int) int {
	switch r.Intn(4) {
	case 0:
		return min(n, r.Intn(20))
	case 1:
		return n - min(n, r.Intn(20))
	case 2:
		return r.Intn(n>>r.Intn(31) + 1)
	}
	return r.Intn(n + 1)
}

// someBattery returns a random valid battery with a capacity of at most n.
func someBattery(r *rand.Rand, n int) api.Battery {
	capacity := upTo(r, n)
	return battery(capacity, upTo(r, capacity), upTo(r, capacity))
}

// someLoads returns at most n random valid loads with powers of at most p.
func someLoads(r *rand.Rand, n, p int) []api.Load {
	var loads []api.Load
	for _, id := range r.Perm(r.Intn(n + 1)) {
		loads = append(loads, api.Load{ID: id - n/3, Power: upTo(r, p), Priority: r.Intn(5) - 2, Essential: r.Intn(2) == 0})
	}
	return loads
}

// gains returns the gains of a craft at all ticks before last, by the chapter's definition.
func gains(t []api.Window, craft, last, sun int) []int {
	gains := slices.Repeat([]int{sun}, last)
	for _, w := range t {
		for k := w.From; w.Kind == api.WinEclipse && w.A == craft && k < min(w.Until, last); k++ {
			gains[k] = 0
		}
	}
	return gains
}

// wantEnd returns the end of a table, by the chapter's definition.
func wantEnd(t []api.Window) int {
	ends := []int{0}
	for _, w := range t {
		ends = append(ends, w.Until)
	}
	return slices.Max(ends)
}

// wantNeeds returns the needs at all ticks up to the end of a table and some later ones, by the chapter's definition.
func wantNeeds(t []api.Window, craft, essential, sun int) []int {
	end := wantEnd(t)
	needs := make([]int, end+5)
	for k, gain := range slices.Backward(gains(t, craft, end, sun)) {
		needs[k] = max(needs[k+1]+essential-gain, 0)
	}
	return needs
}

// wantSurvives returns what Survives returns: it tries each tick.
func wantSurvives(b api.Battery, t []api.Window, craft, from, until, essential, sun int) bool {
	all := gains(t, craft, max(from, until), sun)
	for k := from; k < until; k++ {
		b.Charge += all[k]
		if b.Charge > b.Capacity {
			b.Charge = b.Capacity
		}
		if b.Charge < essential {
			return false
		}
		b.Charge -= essential
	}
	return true
}

// checkErr checks a result of Check.
func checkErr(t *testing.T, b api.Battery, loads []api.Load, want api.Errno) {
	t.Helper()
	if got := power.Check(b, loads); got != want {
		t.Errorf("Check(%v, %v) = %d, want %d", b, loads, got, want)
	}
}

// checkStep checks the results of Step.
func checkStep(t *testing.T, b api.Battery, gain int, loads []api.Load, charge int, want api.Supply) {
	t.Helper()
	got, s := power.Step(b, gain, loads)
	if got != battery(b.Capacity, charge, b.Reserve) || !sameSupply(s, want) {
		t.Errorf("Step(%v, %d, %v) = %v, %+v, want the charge %d, %+v", b, gain, loads, got, s, charge, want)
	}
}

// sameSupply tells whether two supplies are equal.
func sameSupply(v, w api.Supply) bool {
	return v.Gained == w.Gained && v.Used == w.Used && v.Spilled == w.Spilled && slices.Equal(v.Served, w.Served) && v.Brownout == w.Brownout
}

// checkEssential checks a result of Essential.
func checkEssential(t *testing.T, loads []api.Load, want int) {
	t.Helper()
	if got := power.Essential(loads); got != want {
		t.Errorf("Essential(%v) = %d, want %d", loads, got, want)
	}
}

// checkReserve checks a result of Reserve.
func checkReserve(t *testing.T, table []api.Window, craft, tick, essential, sun, want int) {
	t.Helper()
	if got := power.Reserve(table, craft, tick, essential, sun); got != want {
		t.Errorf("Reserve(%v, %d, %d, %d, %d) = %d, want %d", table, craft, tick, essential, sun, got, want)
	}
}

// checkSurvives checks a result of Survives.
func checkSurvives(t *testing.T, b api.Battery, table []api.Window, craft, from, until, essential, sun int, want bool) {
	t.Helper()
	if got := power.Survives(b, table, craft, from, until, essential, sun); got != want {
		t.Errorf("Survives(%v, %v, %d, %d, %d, %d, %d) = %t, want %t", b, table, craft, from, until, essential, sun, got, want)
	}
}
