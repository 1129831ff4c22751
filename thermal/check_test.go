package thermal_test

import (
	"math/rand"
	"slices"
	"testing"

	"perigee/api"
)

// TestCheckZone checks P11.1 for each field of a zone: at its bounds, just beyond them, and numbers of any size.
func TestCheckZone(t *testing.T) {
	for _, n := range []int{-warm, -warm + 1, -1, 0, 1, 300, warm - 1, warm} {
		checkErr(t, []api.Zone{{Temp: n, Limit: 0, Leak: 1}}, api.OK)
		checkErr(t, []api.Zone{{Temp: 0, Limit: n, Leak: 1000}}, api.OK)
		checkErr(t, []api.Zone{{Temp: n, Limit: -n, Leak: 500}}, api.OK)
	}
	for _, n := range append([]int{-warm - 1, warm + 1}, extremes...) {
		checkErr(t, []api.Zone{{Temp: n, Limit: 0, Leak: 1}}, api.ErrRange)
		checkErr(t, []api.Zone{{Temp: 0, Limit: n, Leak: 1}}, api.ErrRange)
		checkErr(t, []api.Zone{{Temp: n, Limit: n, Leak: 1}}, api.ErrRange)
		checkErr(t, []api.Zone{{Temp: n, Limit: n, Leak: n}}, api.ErrRange)
	}
	for _, n := range []int{1, 2, 10, 999, 1000} {
		checkErr(t, []api.Zone{{Temp: 3, Limit: 2, Leak: n}}, api.OK)
	}
	for _, n := range append([]int{-1000, -1, 0, 1001, warm}, extremes...) {
		checkErr(t, []api.Zone{{Temp: 3, Limit: 2, Leak: n}}, api.ErrRange)
	}
}

// TestCheckNumber checks P11.1 for numbers of zones around 8, and that the number comes before the zones in the order of the errors.
func TestCheckNumber(t *testing.T) {
	good, bad := api.Zone{Temp: 300, Limit: 350, Leak: 10}, api.Zone{}
	for n := range 9 {
		checkErr(t, slices.Repeat([]api.Zone{good}, n), api.OK)
	}
	for _, n := range []int{9, 10, 16, 1000} {
		checkErr(t, slices.Repeat([]api.Zone{good}, n), api.ErrLimit)
		checkErr(t, slices.Repeat([]api.Zone{bad}, n), api.ErrLimit)
		checkErr(t, append([]api.Zone{bad}, slices.Repeat([]api.Zone{good}, n-1)...), api.ErrLimit)
	}
	checkErr(t, slices.Repeat([]api.Zone{bad}, 8), api.ErrRange)
}

// TestCheckEach checks P11.1 for a zone that is not valid at each index among up to 8.
func TestCheckEach(t *testing.T) {
	good := api.Zone{Temp: 300, Limit: 350, Leak: 10}
	for n := 1; n <= 8; n++ {
		for i := range n {
			for _, bad := range []api.Zone{{}, {Temp: warm + 1, Leak: 1}, {Temp: -warm - 1, Leak: 1}, {Limit: warm + 1, Leak: 1}, {Limit: -warm - 1, Leak: 1}, {Leak: 1001}} {
				z := slices.Repeat([]api.Zone{good}, n)
				z[i] = bad
				checkErr(t, z, api.ErrRange)
			}
		}
	}
}

// TestCheckDefinition compares Check with the chapter's definition (P11.1) for random zones.
func TestCheckDefinition(t *testing.T) {
	r := rand.New(rand.NewSource(111))
	within := func(n, low, high int) bool { return low <= n && n <= high }
	some := []int{-warm - 1, -warm, -1, 0, 1, 2, 999, 1000, 1001, warm, warm + 1}
	found := map[api.Errno]int{}
	for range 20000 {
		z := someZones(r, 10)
		for i := range z {
			for _, p := range []*int{&z[i].Temp, &z[i].Limit, &z[i].Leak} {
				if r.Intn(12) == 0 {
					*p = some[r.Intn(len(some))]
				}
			}
		}
		want := api.OK
		for _, v := range z {
			if !within(v.Temp, -1000000, 1000000) || !within(v.Limit, -1000000, 1000000) || !within(v.Leak, 1, 1000) {
				want = api.ErrRange
			}
		}
		if len(z) > 8 {
			want = api.ErrLimit
		}
		checkErr(t, z, want)
		found[want]++
	}
	for _, e := range []api.Errno{api.OK, api.ErrRange, api.ErrLimit} {
		if found[e] < 2000 {
			t.Error("the errors are one-sided:", found)
		}
	}
}
