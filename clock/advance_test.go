package clock_test

import (
	"math/rand"
	"testing"

	"perigee/api"
	"perigee/clock"
)

// TestAdvance checks P8.1: the chapter's example, quotients that are whole and that are not, and the ends of the arguments' ranges.
func TestAdvance(t *testing.T) {
	for _, x := range []struct {
		t              api.Interval
		counted, drift int
		want           api.Interval
	}{
		{span(10, 20), 7, 5, span(15, 29)},
		{span(10, 20), 0, 5, span(10, 20)},
		{span(10, 20), 1, 5, span(10, 22)},
		{span(10, 20), 4, 5, span(13, 25)},
		{span(10, 20), 5, 5, span(14, 26)},
		{span(10, 20), 6, 5, span(14, 28)},
		{span(10, 20), 10, 5, span(18, 32)},
		{span(10, 10), 100, 10, span(100, 120)},
		{span(10, 10), 101, 10, span(100, 122)},
		{span(10, 20), 0, 1, span(10, 20)},
		{span(10, 20), 1, 1, span(10, 22)},
		{span(10, 20), 300, 1, span(10, 620)},
		{span(10, 20), 0, top, span(10, 20)},
		{span(10, 20), 1, top, span(10, 22)},
		{span(10, 20), 5, top, span(14, 26)},
		{span(0, 0), 0, 1, span(0, 0)},
		{span(0, 0), 1, 1, span(0, 2)},
		{span(0, 0), most, 1, span(0, top)},
		{span(0, 0), top, top, span(top-1, top)},
		{span(0, 0), top + 1, top, span(top-1, top)},
		{span(0, 0), top + 2, top, span(top, top)},
		{span(0, 0), top - 2, top, span(top-3, top-1)},
		{span(0, 0), top - 1, top, span(top-2, top)},
		{span(0, top), 0, 3, span(0, top)},
		{span(0, top), 3, 3, span(2, top)},
		{span(top, top), 0, 7, span(top, top)},
		{span(top, top), 1, 1, span(top, top)},
		{span(top, top), most, 7, span(top, top)},
		{span(top-9, top-8), 6, 100, span(top-4, top-1)},
		{span(top-9, top-8), 7, 100, span(top-3, top)},
		{span(top-9, top-8), 8, 100, span(top-2, top)},
		{span(top-9, top-8), 10, 100, span(top, top)},
		{span(top-9, top-8), 11, 100, span(top, top)},
		{span(0, top), most, top, span(top, top)},
		{span(0, top), most, 2, span(top, top)},
		{span(3, 3), most, 1, span(3, top)},
	} {
		checkAdvance(t, x.t, x.counted, x.drift, x.want)
	}
}

// TestAdvanceDefinition checks P8.1 for random arguments.
func TestAdvanceDefinition(t *testing.T) {
	r := rand.New(rand.NewSource(81))
	for range 200000 {
		x, counted, drift := someInterval(r), upTo(r, most), someDrift(r)
		e := wrong(counted, drift)
		checkAdvance(t, x, counted, drift, span(limit(x.Lo+counted-e), limit(x.Hi+counted+e)))
	}
}

// TestAdvanceIsSound checks P8.8: whatever tick it was and however many ticks the counter's error permits have passed, the result contains the tick that it is now.
func TestAdvanceIsSound(t *testing.T) {
	for _, first := range []int{0, 100, top - 20, top - 4} {
		for lo := first; lo <= first+4; lo++ {
			for hi := lo; hi <= first+4; hi++ {
				for counted := range 12 {
					for drift := 1; drift <= 13; drift++ {
						checkSound(t, span(lo, hi), counted, drift)
					}
				}
			}
		}
	}
}

// checkSound checks P8.8 for all ticks of an interval and all numbers of ticks that can have passed.
func checkSound(t *testing.T, x api.Interval, counted, drift int) {
	t.Helper()
	got := clock.Advance(x, counted, drift)
	e := wrong(counted, drift)
	for tick := x.Lo; tick <= x.Hi; tick++ {
		for passed := counted - e; passed <= counted+e; passed++ {
			if !holds(got, limit(tick+passed)) {
				t.Errorf("Advance(%v, %d, %d) = %v does not contain %d + %d", x, counted, drift, got, tick, passed)
			}
		}
	}
}

// TestAdvanceTwice checks P8.8: two steps yield an interval that contains that of a single step, and more if each of them is rounded up.
func TestAdvanceTwice(t *testing.T) {
	r := rand.New(rand.NewSource(88))
	for range 200000 {
		x, a, b, drift := someInterval(r), upTo(r, most/2), upTo(r, most/2), someDrift(r)
		once := clock.Advance(x, a+b, drift)
		twice := clock.Advance(clock.Advance(x, a, drift), b, drift)
		if !within(once, twice) {
			t.Errorf("%v advances by %d + %d with drift %d to %v, in two steps to %v", x, a, b, drift, once, twice)
		}
	}
	checkAdvance(t, span(50, 60), 6, 10, span(55, 67))
	checkAdvance(t, clock.Advance(span(50, 60), 3, 10), 3, 10, span(54, 68))
}
