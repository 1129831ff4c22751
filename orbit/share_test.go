package orbit_test

import (
	"math/rand"
	"slices"
	"testing"

	"perigee/api"
	"perigee/orbit"
)

// TestArguments checks R4 and R5 for P9.1 to P9.6: no function changes its table or the spare capacity behind it, and a longer capacity changes no result.
func TestArguments(t *testing.T) {
	r := rand.New(rand.NewSource(94))
	for range 300 {
		table := someTable(r, 30, 40)
		long := append(slices.Clone(table), contact(0, 0, 0, 1, 1), place(1, 1, 0, 40), cross(0, 1, 0, 40, 1))
		before := slices.Clone(long)
		spare := long[:len(table)]
		kind, a, b, tick := 1+r.Intn(4), r.Intn(4), r.Intn(3), r.Intn(40)
		checkErr(t, spare, orbit.Check(table))
		w, found := orbit.At(table, kind, a, b, tick)
		checkAt(t, spare, kind, a, b, tick, w, found)
		w, found = orbit.Next(table, kind, a, b, tick)
		checkNext(t, spare, kind, a, b, tick, w, found)
		checkTicks(t, spare, kind, a, b, tick, 50, orbit.Ticks(table, kind, a, b, tick, 50))
		checkPlaces(t, spare, a, tick, orbit.Places(table, a, tick)...)
		at, way, _ := orbit.Arrival(table, a, b, tick, 3)
		checkArrival(t, spare, a, b, tick, 3, at, way...)
		if !slices.Equal(long, before) {
			t.Errorf("the table %v became %v", before, long)
		}
	}
}

// TestDisturbed checks R4 for a table that is not changed by Check either if it is not valid.
func TestDisturbed(t *testing.T) {
	table := []api.Window{place(3, 9, 5, 9), eclipse(2, 5, 9), contact(1, 1, 4, 9, 0), contact(1, 1, 4, 9, 1), contact(1, 1, 4, 9, 1)}
	for from := range table {
		for until := from; until <= len(table); until++ {
			before := slices.Clone(table)
			orbit.Check(table[from:until])
			if !slices.Equal(table, before) {
				t.Errorf("Check(%v) changed the table to %v", before[from:until], table)
			}
		}
	}
}

// TestResults checks R4 for P9.5 and P9.6: the lists are new for each call, so that changing one, or appending to it, changes no other one.
func TestResults(t *testing.T) {
	table := sorted(append(example(), place(0, 3, 5, 9), place(0, 7, 5, 9))...)
	places, more := orbit.Places(table, 0, 5), orbit.Places(table, 0, 5)
	spoil(places)
	spoil(orbit.Places(table, 0, 6))
	if !slices.Equal(more, []int{3, 7}) {
		t.Error("Places: an earlier result became", more)
	}
	checkPlaces(t, table, 0, 5, 3, 7)
	_, way, _ := orbit.Arrival(table, 0, 1, 0, 50)
	_, again, _ := orbit.Arrival(table, 0, 1, 0, 50)
	spoil(way)
	if !slices.Equal(again, []int{0, 1, 13}) {
		t.Error("Arrival: an earlier result became", again)
	}
	checkArrival(t, table, 0, 1, 0, 50, 28, 0, 1, 13)
}

// spoil changes a list and what is behind it.
func spoil(list []int) {
	list = list[:cap(list)]
	for i := range list {
		list[i] = -99
	}
}

// TestNothing checks R4 for nil and empty tables, which are equivalent.
func TestNothing(t *testing.T) {
	for _, table := range [][]api.Window{nil, {}, example()[:0]} {
		checkErr(t, table, api.OK)
		checkAt(t, table, api.WinContact, 0, 0, 0, api.Window{}, false)
		checkNext(t, table, api.WinContact, 0, 0, 0, api.Window{}, false)
		checkTicks(t, table, api.WinContact, 0, 0, 0, top, 0)
		checkPlaces(t, table, 0, 0)
		checkArrival(t, table, 0, 0, 0, 1, 0)
	}
}

// TestNoPanic checks R1 for arguments of all kinds, also outside the functions' domains: no function panics or runs on.
func TestNoPanic(t *testing.T) {
	r := rand.New(rand.NewSource(95))
	numbers := append([]int{-1, 0, 1, 2, 3, 4, 5, 8, 9, 11, 12, 20, 21, 31, 32, 1000, 1001, api.MaxFile, api.MaxFile + 1, top - 1, top, top + 1}, extremes...)
	some := func() int { return numbers[r.Intn(len(numbers))] }
	for range 20000 {
		table := someLinks(r, 12, 40)
		for i := range table {
			for _, p := range []*int{&table[i].Kind, &table[i].A, &table[i].B, &table[i].From, &table[i].Until, &table[i].Rate} {
				if r.Intn(8) == 0 {
					*p = some()
				}
			}
		}
		orbit.Check(table)
		orbit.At(table, some(), some(), some(), some())
		orbit.Next(table, some(), some(), some(), some())
		orbit.Ticks(table, some(), some(), some(), some(), some())
		orbit.Places(table, some(), some())
		orbit.Arrival(table, some(), some(), some(), some())
		orbit.Arrival(table, r.Intn(6), r.Intn(3), some(), some())
		orbit.Arrival(table, r.Intn(6), r.Intn(3), r.Intn(20), r.Intn(9)-4)
	}
}
