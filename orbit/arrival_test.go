package orbit_test

import (
	"testing"

	"perigee/api"
)

// TestArrivalExample checks P9.6 for the chapter's examples.
func TestArrivalExample(t *testing.T) {
	checkArrival(t, example(), 0, 0, 0, 50, 15, 0, 12)
	checkArrival(t, example(), 0, 1, 0, 50, 28, 0, 1, 13)
}

// TestArrivalHop checks P9.6 for a single hop: it takes the bytes divided by the rate, rounded up, waits until the window begins, and must end in it.
func TestArrivalHop(t *testing.T) {
	table := []api.Window{contact(4, 2, 10, 20, 10)}
	for _, c := range []struct{ tick, size, at int }{
		{0, 1, 11}, {0, 9, 11}, {0, 10, 11}, {0, 11, 12}, {0, 20, 12}, {0, 21, 13}, {10, 1, 11}, {9, 1, 11}, {11, 1, 12}, {19, 1, 20}, {19, 10, 20},
		{0, 100, 20}, {0, 99, 20}, {10, 100, 20}, {10, 91, 20}, {11, 90, 20}, {12, 75, 20}, {18, 20, 20},
	} {
		checkArrival(t, table, 4, 2, c.tick, c.size, c.at, 4, 14)
	}
	for _, c := range []struct{ tick, size int }{
		{0, 101}, {10, 101}, {11, 91}, {11, 100}, {12, 81}, {18, 21}, {19, 11}, {20, 1}, {21, 1}, {top, 1}, {0, api.MaxFile}, {top, api.MaxFile},
	} {
		checkArrival(t, table, 4, 2, c.tick, c.size, 0)
	}
}

// TestArrivalBounds checks P9.6 for sizes of 1 and MaxFile, ticks of 0 and MaxTick, the least and the greatest rate, and the last craft and station.
func TestArrivalBounds(t *testing.T) {
	slow, fast := []api.Window{contact(11, 8, 0, top, 1)}, []api.Window{contact(11, 8, 0, top, fastest)}
	checkArrival(t, slow, 11, 8, 0, 1, 1, 11, 20)
	checkArrival(t, fast, 11, 8, 0, 1, 1, 11, 20)
	checkArrival(t, slow, 11, 8, 0, api.MaxFile, api.MaxFile, 11, 20)
	checkArrival(t, fast, 11, 8, 0, api.MaxFile, 66, 11, 20)
	checkArrival(t, slow, 11, 8, top-1, 1, top, 11, 20)
	checkArrival(t, slow, 11, 8, top-1, 2, 0)
	checkArrival(t, fast, 11, 8, top-1, 1000, top, 11, 20)
	checkArrival(t, fast, 11, 8, top-1, 1001, 0)
	checkArrival(t, slow, 11, 8, top, 1, 0)
	checkArrival(t, slow, 11, 8, top-api.MaxFile, api.MaxFile, top, 11, 20)
	checkArrival(t, slow, 11, 8, top-api.MaxFile+1, api.MaxFile, 0)
	checkArrival(t, fast, 11, 8, top-66, api.MaxFile, top, 11, 20)
	checkArrival(t, fast, 11, 8, top-65, api.MaxFile, 0)
	checkArrival(t, []api.Window{contact(0, 0, 0, 1, 1)}, 0, 0, 0, 1, 1, 0, 12)
	checkArrival(t, []api.Window{contact(0, 0, 0, 1, 1)}, 0, 0, 0, 2, 0)
	checkArrival(t, []api.Window{contact(0, 0, top-1, top, 1)}, 0, 0, 0, 1, top, 0, 12)
}

// TestArrivalNone checks P9.6 where there is no way: no table, only windows of other kinds, other crafts and stations, a link that is over too early, and ways that would go on from a station.
func TestArrivalNone(t *testing.T) {
	checkArrival(t, nil, 0, 0, 0, 1, 0)
	checkArrival(t, []api.Window{eclipse(0, 0, 9), place(0, 0, 0, 9), place(0, 12, 0, 9)}, 0, 0, 0, 1, 0)
	checkArrival(t, []api.Window{contact(0, 1, 0, 9, 1), contact(1, 0, 0, 9, 1)}, 0, 0, 0, 1, 0)
	checkArrival(t, []api.Window{contact(0, 1, 0, 9, 1), cross(0, 2, 0, 9, 1)}, 0, 2, 0, 1, 0)
	checkArrival(t, []api.Window{contact(1, 0, 0, 9, 1), cross(0, 1, 9, 15, 1)}, 0, 0, 0, 1, 0)
	checkArrival(t, []api.Window{contact(1, 0, 0, 9, 1), cross(0, 1, 8, 15, 1)}, 0, 0, 0, 1, 0)
	checkArrival(t, []api.Window{contact(0, 3, 0, 9, 1), contact(1, 3, 0, 9, 1), contact(1, 4, 0, 9, 1)}, 0, 4, 0, 1, 0)
	checkArrival(t, []api.Window{contact(0, 1, 0, 9, 1), contact(1, 1, 0, 9, 1), cross(1, 2, 0, 9, 1), contact(2, 5, 0, 9, 1)}, 0, 5, 0, 1, 0)
}

// TestArrivalWindows checks P9.6 for several windows of a link: the first one into which the hop fits is used.
func TestArrivalWindows(t *testing.T) {
	table := []api.Window{contact(0, 0, 0, 10, 1), contact(0, 0, 10, 20, 10), contact(0, 0, 30, 200, 2)}
	for _, c := range []struct{ tick, size, at int }{
		{0, 9, 9}, {0, 10, 10}, {1, 9, 10}, {1, 10, 11}, {0, 11, 12}, {5, 6, 11}, {5, 5, 10}, {9, 1, 10}, {9, 2, 11}, {10, 100, 20}, {11, 91, 76}, {11, 90, 20}, {19, 10, 20}, {19, 11, 36}, {0, 101, 81}, {25, 1, 31}, {30, 340, 200}, {0, 340, 200}, {32, 337, 0},
	} {
		if c.at == 0 {
			checkArrival(t, table, 0, 0, c.tick, c.size, 0)
		} else {
			checkArrival(t, table, 0, 0, c.tick, c.size, c.at, 0, 12)
		}
	}
}

// TestArrivalCross checks P9.6 for ways over a cross-link in each of its directions, that wait for it or do not catch it.
func TestArrivalCross(t *testing.T) {
	table := []api.Window{cross(3, 5, 10, 20, 2), contact(3, 1, 12, 40, 4), contact(5, 7, 12, 40, 8)}
	checkArrival(t, table, 3, 7, 0, 8, 15, 3, 5, 19)
	checkArrival(t, table, 5, 1, 0, 8, 16, 5, 3, 13)
	checkArrival(t, table, 3, 7, 16, 8, 21, 3, 5, 19)
	checkArrival(t, table, 5, 1, 16, 8, 22, 5, 3, 13)
	checkArrival(t, table, 3, 7, 17, 8, 0)
	checkArrival(t, table, 5, 1, 17, 8, 0)
	checkArrival(t, table, 3, 1, 17, 8, 19, 3, 13)
	checkArrival(t, table, 5, 7, 17, 8, 18, 5, 19)
	checkArrival(t, table, 3, 7, 0, 20, 23, 3, 5, 19)
	checkArrival(t, table, 3, 7, 0, 21, 0)
	// The numbers of a station and of a craft may be equal.
	checkArrival(t, []api.Window{cross(1, 2, 0, 9, 1), contact(1, 2, 5, 9, 1), contact(2, 1, 5, 9, 1)}, 1, 2, 0, 1, 6, 1, 14)
	checkArrival(t, []api.Window{cross(1, 2, 0, 9, 1), contact(2, 2, 0, 9, 1)}, 1, 2, 0, 1, 2, 1, 2, 14)
}

// TestArrivalDetour checks P9.6 for stations that are reached directly, but later than over other crafts, and the other way round.
func TestArrivalDetour(t *testing.T) {
	table := []api.Window{cross(0, 6, 0, 50, 100), cross(6, 9, 0, 50, 100), contact(9, 3, 0, 50, 100), contact(0, 3, 5, 100, 1)}
	table = sorted(table...)
	checkArrival(t, table, 0, 3, 0, 100, 3, 0, 6, 9, 15)
	checkArrival(t, table, 0, 3, 0, 1, 3, 0, 6, 9, 15)
	checkArrival(t, table, 0, 3, 4, 1, 6, 0, 15)
	checkArrival(t, table, 0, 3, 4, 2, 7, 0, 15) // both arrive at 7, and craft 0 is less than craft 9
	checkArrival(t, table, 0, 3, 4, 3, 7, 0, 6, 9, 15)
	checkArrival(t, table, 0, 3, 47, 40, 50, 0, 6, 9, 15)
	checkArrival(t, table, 0, 3, 48, 40, 88, 0, 15)
	checkArrival(t, table, 6, 3, 10, 40, 12, 6, 9, 15)
	back := sorted(cross(2, 8, 0, 9, 3), contact(2, 0, 5, 9, 3), contact(8, 0, 4, 9, 1))
	checkArrival(t, back, 8, 0, 0, 3, 6, 8, 2, 12)
	checkArrival(t, back, 8, 0, 4, 3, 6, 8, 2, 12)
	checkArrival(t, back, 8, 0, 5, 3, 7, 8, 2, 12)
	checkArrival(t, back, 8, 0, 5, 1, 6, 8, 12)
	checkArrival(t, back, 2, 0, 0, 3, 6, 2, 12)
}

// TestArrivalTies checks P9.6 for nodes with several least ways: the least node before each one is chosen, however its own way goes.
func TestArrivalTies(t *testing.T) {
	wait := sorted(cross(0, 1, 5, 9, 10), cross(0, 2, 5, 9, 10), contact(1, 4, 20, 30, 10), contact(2, 4, 20, 30, 10))
	checkArrival(t, wait, 0, 4, 0, 10, 21, 0, 1, 16)
	// Craft 1 has the message later than craft 2, but hands it on at the same tick.
	later := sorted(cross(0, 2, 1, 9, 10), cross(0, 1, 5, 9, 10), contact(1, 4, 20, 30, 10), contact(2, 4, 19, 30, 5))
	checkArrival(t, later, 0, 4, 0, 10, 21, 0, 1, 16)
	// The way over more crafts, because craft 1 is less than craft 3.
	longer := sorted(cross(0, 3, 0, 9, 1), cross(0, 5, 0, 9, 1), cross(1, 5, 0, 9, 1), contact(3, 4, 7, 30, 1), contact(1, 4, 7, 30, 1))
	checkArrival(t, longer, 0, 4, 0, 1, 8, 0, 5, 1, 16)
	// Craft 7 itself is not the least node before craft 8 or the station.
	itself := sorted(cross(2, 7, 0, 9, 1), cross(2, 8, 4, 9, 1), cross(7, 8, 4, 9, 1), contact(8, 0, 6, 9, 1), contact(7, 1, 5, 9, 1), contact(2, 1, 5, 9, 1))
	checkArrival(t, itself, 7, 0, 0, 1, 7, 7, 2, 8, 12)
	checkArrival(t, itself, 7, 1, 0, 1, 6, 7, 2, 13)
	checkArrival(t, itself, 2, 0, 0, 1, 7, 2, 8, 12)
	// Two nodes of the way have ties, and craft 2 is less than craft 3, but too late.
	twice := sorted(cross(0, 2, 3, 9, 1), cross(0, 3, 0, 9, 1), cross(0, 4, 0, 9, 1), cross(2, 5, 4, 9, 1), cross(3, 5, 2, 9, 1), cross(4, 5, 2, 9, 1), cross(4, 6, 2, 9, 1), cross(5, 6, 2, 3, 1), contact(5, 0, 6, 9, 1), contact(6, 0, 6, 9, 1))
	checkArrival(t, twice, 0, 0, 0, 1, 7, 0, 3, 5, 12)
	// The same craft before, by either of two links that end at the same tick.
	checkArrival(t, sorted(contact(1, 1, 0, 3, 2), contact(1, 1, 3, 9, 2)), 1, 1, 0, 6, 3, 1, 13)
}

// TestArrivalChain checks P9.6 for ways over all crafts, upwards and downwards, in tables in whose order the links are passed or just the other one.
func TestArrivalChain(t *testing.T) {
	var table []api.Window
	var up, down []int
	for i := range crafts {
		up, down = append(up, i), append(down, crafts-1-i)
		if i > 0 {
			table = append(table, cross(i-1, i, 0, 500, 1))
		}
	}
	table = sorted(append(table, contact(11, 8, 0, 500, 1), contact(0, 0, 0, 500, 1))...)
	checkErr(t, table, api.OK)
	checkArrival(t, table, 0, 8, 0, 10, 120, append(up, 20)...)
	checkArrival(t, table, 11, 0, 0, 10, 120, append(down, 12)...)
	checkArrival(t, table, 5, 8, 7, 10, 77, append(up[5:12:12], 20)...)
	checkArrival(t, table, 5, 0, 7, 10, 67, append(down[6:12:12], 12)...)
	checkArrival(t, table, 0, 8, 0, 41, 492, append(up, 20)...)
	checkArrival(t, table, 0, 8, 8, 41, 500, append(up, 20)...)
	checkArrival(t, table, 0, 8, 9, 41, 0)
	checkArrival(t, table, 11, 0, 9, 41, 0)
	checkArrival(t, table, 0, 0, 9, 41, 50, 0, 12)
}

// TestArrivalOthers checks P9.6 among windows that are no links or of other crafts: they change nothing.
func TestArrivalOthers(t *testing.T) {
	table := sorted(append(example(), eclipse(0, 0, 500), eclipse(1, 3, 500), place(0, 0, 1, 400), place(0, 1, 2, 400), place(0, 12, 2, 400), place(1, 1, 2, 400), cross(4, 5, 0, 90, 1), contact(5, 1, 0, 90, 1), contact(0, 2, 0, 90, 1))...)
	checkArrival(t, table, 0, 0, 0, 50, 15, 0, 12)
	checkArrival(t, table, 0, 1, 0, 50, 28, 0, 1, 13)
	checkArrival(t, table, 1, 0, 0, 1, 14, 1, 0, 12)
	checkArrival(t, table, 4, 1, 0, 30, 60, 4, 5, 13)
	checkArrival(t, table, 4, 0, 0, 30, 0)
}
