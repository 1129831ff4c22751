package clock_test

import (
	"math"
	"math/rand"
	"slices"
	"testing"

	"perigee/api"
	"perigee/clock"
)

const (
	top     = api.MaxTick
	most    = 1 << 40 // greatest counter
	longest = 32      // entries of a leap table
)

// extremes are numbers with which a careless sum or difference overflows, and their neighbours.
var extremes = []int{math.MinInt, math.MinInt + 1, math.MinInt + 100, math.MinInt + 101, math.MaxInt - 101, math.MaxInt - 100, math.MaxInt - 1, math.MaxInt}

// span returns the interval from lo to hi.
func span(lo, hi int) api.Interval { return api.Interval{Lo: lo, Hi: hi} }

// holds tells whether an interval contains a tick.
func holds(t api.Interval, tick int) bool { return t.Lo <= tick && tick <= t.Hi }

// within tells whether an interval contains each tick of another one.
func within(inner, outer api.Interval) bool {
	return holds(outer, inner.Lo) && holds(outer, inner.Hi)
}

// wrong returns by how many ticks a counter that advanced by counted may be wrong: the least e of which drift times e is at least counted.
func wrong(counted, drift int) int {
	e := counted / drift
	for drift*e < counted {
		e++
	}
	return e
}

// limit returns n, or the closest tick of true time.
func limit(n int) int {
	if n < 0 {
		return 0
	}
	if n > top {
		return top
	}
	return n
}

// upTo returns a random number from 0 to n, which is small, close to n, or of any size.
func upTo(r *rand.Rand, n int) int {
	switch r.Intn(4) {
	case 0:
		return min(n, r.Intn(20))
	case 1:
		return n - min(n, r.Intn(20))
	case 2:
		return r.Intn(n>>r.Intn(40) + 1)
	}
	return r.Intn(n + 1)
}

// someInterval returns a random interval.
func someInterval(r *rand.Rand) api.Interval {
	a, b := upTo(r, top), upTo(r, top)
	return span(min(a, b), max(a, b))
}

// someDrift returns a random drift.
func someDrift(r *rand.Rand) int { return 1 + upTo(r, top-1) }

// checkAdvance checks a result of Advance.
func checkAdvance(t *testing.T, x api.Interval, counted, drift int, want api.Interval) {
	t.Helper()
	if got := clock.Advance(x, counted, drift); got != want {
		t.Errorf("Advance(%v, %d, %d) = %v, want %v", x, counted, drift, got, want)
	}
}

// checkCorrelate checks the results of Correlate.
func checkCorrelate(t *testing.T, x api.Interval, s api.Sample, counter, drift int, want api.Interval, e api.Errno) {
	t.Helper()
	if got, f := clock.Correlate(x, s, counter, drift); got != want || f != e {
		t.Errorf("Correlate(%v, %v, %d, %d) = %v, %d, want %v, %d", x, s, counter, drift, got, f, want, e)
	}
}

// checkCivil checks a result of Civil.
func checkCivil(t *testing.T, table []api.Leap, tick, want int) {
	t.Helper()
	if got := clock.Civil(table, tick); got != want {
		t.Errorf("Civil(%v, %d) = %d, want %d", table, tick, got, want)
	}
}

// checkTicks checks a result of Ticks.
func checkTicks(t *testing.T, table []api.Leap, civil int, want []int) {
	t.Helper()
	if got := clock.Ticks(table, civil); !slices.Equal(got, want) {
		t.Errorf("Ticks(%v, %d) = %v, want %v", table, civil, got, want)
	}
}

// checkLeaps checks a result of CheckLeaps.
func checkLeaps(t *testing.T, table []api.Leap, want api.Errno) {
	t.Helper()
	if got := clock.CheckLeaps(table); got != want {
		t.Errorf("CheckLeaps(%v) = %d, want %d", table, got, want)
	}
}

// checkJudge checks a result of Judge.
func checkJudge(t *testing.T, x api.Interval, from, until, want int) {
	t.Helper()
	if got := clock.Judge(x, from, until); got != want {
		t.Errorf("Judge(%v, %d, %d) = %d, want %d", x, from, until, got, want)
	}
}
