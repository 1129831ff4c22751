package clock_test

import (
	"math"
	"math/big"
	"math/rand"
	"testing"

	"perigee/clock"
)

// checkUnwrap checks a result of Unwrap.
func checkUnwrap(t *testing.T, last, low, want int) {
	t.Helper()
	if got := clock.Unwrap(last, low); got != want {
		t.Errorf("Unwrap(%d, %d) = %d, want %d", last, low, got, want)
	}
}

// TestUnwrap checks P8.3: the chapter's examples, the remainder of last and its neighbours, and low that is negative or very large.
func TestUnwrap(t *testing.T) {
	for _, x := range [][3]int{
		{65530, 3, 65539}, {5, 5, 5}, {0, -1, 65535},
		{0, 0, 0}, {0, 1, 1}, {0, 65535, 65535}, {0, 65536, 0}, {0, 65537, 1},
		{5, 4, 65540}, {5, 6, 6}, {5, 0, 65536}, {5, 65535, 65535}, {5, 65541, 5}, {5, 65540, 65540},
		{65535, 65535, 65535}, {65535, 0, 65536}, {65535, 65534, 131070}, {65536, 0, 65536}, {65536, 65535, 131071}, {65536, 65536, 65536},
		{70000, 70000, 70000}, {70000, 69999, 135535}, {70000, 70001, 70001}, {70000, 4464, 70000}, {70000, 4463, 135535},
		{5, -1, 65535}, {5, -65531, 5}, {5, -65532, 65540}, {5, -65530, 6}, {5, -65536, 65536}, {70000, -61072, 70000},
		{5, most, 65536}, {5, most + 5, 5}, {5, most + 4, 65540}, {5, -most, 65536}, {5, -most + 5, 5},
		{most, 0, most}, {most, 65535, most + 65535}, {most, 1, most + 1}, {most, most, most}, {most, -1, most + 65535},
		{0, math.MaxInt, 65535}, {0, math.MinInt, 0}, {most, math.MaxInt, most + 65535}, {most, math.MinInt, most}, {1, math.MinInt, 65536}, {most - 1, math.MinInt, most},
	} {
		checkUnwrap(t, x[0], x[1], x[2])
	}
}

// remainder returns what is left of n when divided by 65536.
func remainder(n int) int64 {
	return new(big.Int).Mod(big.NewInt(int64(n)), big.NewInt(65536)).Int64()
}

// TestUnwrapDefinition checks P8.3 for random arguments: the result leaves the remainder of low, and is one of the 65536 numbers from last on, of which only one does.
func TestUnwrapDefinition(t *testing.T) {
	r := rand.New(rand.NewSource(83))
	for range 200000 {
		last, low := upTo(r, most), int(r.Uint64()>>r.Intn(64))
		switch r.Intn(4) {
		case 0:
			low = -low
		case 1:
			low = last + r.Intn(5) - 2
		}
		got := clock.Unwrap(last, low)
		if got < last || got > last+65535 || remainder(got) != remainder(low) {
			t.Errorf("Unwrap(%d, %d) = %d", last, low, got)
		}
	}
}

// TestUnwrapCounter checks P8.12: a counter that is at least last and less than last + 65536 comes back, the next one does not.
func TestUnwrapCounter(t *testing.T) {
	for _, last := range []int{0, 1, 5, 65535, 65536, 65537, 123456789, most - 1, most} {
		for counter := last; counter < last+65536; counter++ {
			checkUnwrap(t, last, counter%65536, counter)
		}
		checkUnwrap(t, last, (last+65536)%65536, last)
	}
}
