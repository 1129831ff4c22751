package clock_test

import (
	"math"
	"math/rand"
	"testing"

	"perigee/api"
	"perigee/clock"
)

// TestJudge checks P8.4: the chapter's examples, and windows that begin and end just at, before and after the ends of the interval.
func TestJudge(t *testing.T) {
	x := span(5, 9)
	for _, y := range []struct{ from, until, want int }{
		{5, 10, 0}, {6, 10, -1}, {6, 9, 1},
		{5, 9, 1}, {5, 11, 0}, {4, 10, 0}, {4, 9, 1}, {6, 11, -1}, {0, top, 0}, {0, 5, 1}, {0, 6, 1}, {9, 10, -1}, {9, 9, 1}, {10, 20, -1}, {10, 10, -1}, {11, 10, -1}, {10, 9, 1},
		{5, 5, 1}, {9, 4, 1}, {50, 5, 1}, {50, 10, -1}, {0, 0, 1}, {-7, -3, 1}, {-7, 10, 0}, {-7, 9, 1},
		{math.MinInt, math.MaxInt, 0}, {math.MaxInt, math.MaxInt, -1}, {math.MinInt, math.MinInt, 1}, {math.MaxInt, math.MinInt, 1}, {math.MinInt, 10, 0}, {math.MinInt, 9, 1}, {5, math.MaxInt, 0}, {6, math.MaxInt, -1},
	} {
		checkJudge(t, x, y.from, y.until, y.want)
	}
}

// TestJudgeInterval checks P8.4 for intervals that are single, the whole time, or none that a craft has.
func TestJudgeInterval(t *testing.T) {
	for _, y := range []struct {
		t                 api.Interval
		from, until, want int
	}{
		{span(7, 7), 7, 8, 0}, {span(7, 7), 7, 7, 1}, {span(7, 7), 8, 8, -1}, {span(7, 7), 6, 7, 1},
		{span(0, 0), 0, 1, 0}, {span(0, 0), 0, 0, 1}, {span(0, 0), 1, 1, -1},
		{span(0, top), 0, top + 1, 0}, {span(0, top), 0, top, 1}, {span(0, top), 1, top + 1, -1},
		{span(9, 5), 0, 5, 1}, {span(9, 5), 0, 6, 0}, {span(9, 5), 9, 6, 0}, {span(9, 5), 10, 6, -1},
		{span(math.MinInt, math.MaxInt), 0, math.MaxInt, 1}, {span(math.MinInt, 3), 0, 4, -1}, {span(math.MinInt, 3), math.MinInt, 4, 0}, {span(math.MinInt, math.MinInt), 0, math.MaxInt, -1},
	} {
		checkJudge(t, y.t, y.from, y.until, y.want)
	}
}

// allIn tells whether every tick of an interval lies in a window.
func allIn(t api.Interval, from, until int) bool {
	for tick := t.Lo; tick <= t.Hi; tick++ {
		if tick < from || tick >= until {
			return false
		}
	}
	return true
}

// TestJudgeOpen checks P8.11: the result is 0 exactly if every tick of the interval lies in the window, and then it is 0 for every interval within it.
func TestJudgeOpen(t *testing.T) {
	for lo := range 9 {
		for hi := lo; hi < 9; hi++ {
			for from := -2; from < 11; from++ {
				for until := -2; until < 11; until++ {
					checkOpen(t, span(lo, hi), from, until)
				}
			}
		}
	}
}

// checkOpen checks P8.11 for an interval and those within it.
func checkOpen(t *testing.T, x api.Interval, from, until int) {
	t.Helper()
	open := clock.Judge(x, from, until) == 0
	if open != allIn(x, from, until) {
		t.Errorf("Judge(%v, %d, %d) is 0: %t", x, from, until, open)
	}
	for lo := x.Lo; open && lo <= x.Hi; lo++ {
		for hi := lo; hi <= x.Hi; hi++ {
			checkJudge(t, span(lo, hi), from, until, 0)
		}
	}
}

// TestJudgePast checks P8.11: once a window may be past, it may be past after every Advance.
func TestJudgePast(t *testing.T) {
	r := rand.New(rand.NewSource(811))
	past := 0
	for range 200000 {
		x := someInterval(r)
		from, until := upTo(r, top), x.Hi+r.Intn(5)-2
		if clock.Judge(x, from, until) == 1 {
			past++
			checkJudge(t, clock.Advance(x, upTo(r, most), someDrift(r)), from, until, 1)
		}
	}
	if past < 1000 {
		t.Errorf("only %d windows may be past", past)
	}
}
