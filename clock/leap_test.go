package clock_test

import (
	"math"
	"math/rand"
	"slices"
	"testing"

	"perigee/api"
	"perigee/clock"
)

// example is the table of the chapter's examples.
func example() []api.Leap { return []api.Leap{{At: 100, Offset: 2}, {At: 200, Offset: 1}} }

// longTable returns a table of as many entries as it may have, each a tick after the one before, by which civil time is put back by a tick.
func longTable() []api.Leap {
	var table []api.Leap
	for i := range longest {
		table = append(table, api.Leap{At: 50 + i, Offset: -1 - i})
	}
	return table
}

// tables returns tables that CheckLeaps accepts: without entries, with one, with few and with as many as possible, at either end of time, and with the greatest offsets.
func tables(r *rand.Rand) [][]api.Leap {
	list := [][]api.Leap{
		nil, {}, {{At: 0, Offset: 100}}, {{At: 0, Offset: -100}}, {{At: 0}}, {{At: top, Offset: -100}}, {{At: top, Offset: 100}}, {{At: 500, Offset: 3}},
		example(), longTable(),
		{{At: 0, Offset: -100}, {At: 1, Offset: 100}, {At: top - 1, Offset: -100}, {At: top, Offset: 100}},
		{{At: 10, Offset: 100}, {At: 110, Offset: -100}, {At: 310, Offset: 100}, {At: 311, Offset: 100}},
	}
	for entries := range longest + 1 {
		list = append(list, someTable(r, entries, 1+r.Intn(100)), someTable(r, entries, 30000))
	}
	return list
}

// someTable returns a random table with entries that follow one another after at most step ticks.
func someTable(r *rand.Rand, entries, step int) []api.Leap {
	var table []api.Leap
	at := r.Intn(step) - 1
	for range entries {
		at += 1 + r.Intn(step)
		table = append(table, api.Leap{At: at, Offset: r.Intn(201) - 100})
	}
	return table
}

// civil returns the civil time of a tick as P8.5 defines it.
func civil(table []api.Leap, tick int) int {
	for i := len(table) - 1; i >= 0; i-- {
		if table[i].At <= tick {
			return tick + table[i].Offset
		}
	}
	return tick
}

// TestCivil checks P8.5: the chapter's examples, and ticks just before, at and just after an entry's At.
func TestCivil(t *testing.T) {
	for _, x := range [][2]int{
		{99, 99}, {100, 102}, {200, 201}, {0, 0}, {1, 1}, {98, 98}, {101, 103}, {150, 152}, {198, 200}, {199, 201}, {201, 202}, {top, top + 1},
	} {
		checkCivil(t, example(), x[0], x[1])
	}
	for _, x := range []struct {
		table      []api.Leap
		tick, want int
	}{
		{nil, 0, 0}, {nil, 77, 77}, {nil, top, top}, {[]api.Leap{}, 5, 5},
		{[]api.Leap{{At: 0, Offset: -100}}, 0, -100}, {[]api.Leap{{At: 0, Offset: 100}}, 0, 100}, {[]api.Leap{{At: 0, Offset: 100}}, top, top + 100},
		{[]api.Leap{{At: 1, Offset: -100}}, 0, 0}, {[]api.Leap{{At: 1, Offset: -100}}, 1, -99},
		{[]api.Leap{{At: top, Offset: -100}}, top, top - 100}, {[]api.Leap{{At: top, Offset: -100}}, top - 1, top - 1},
		{longTable(), 49, 49}, {longTable(), 50, 49}, {longTable(), 65, 49}, {longTable(), 81, 49}, {longTable(), 82, 50}, {longTable(), top, top - 32},
	} {
		checkCivil(t, x.table, x.tick, x.want)
	}
}

// TestCivilDefinition checks P8.5 for tables of all numbers of entries: at each entry's At, around it, and at random ticks.
func TestCivilDefinition(t *testing.T) {
	r := rand.New(rand.NewSource(85))
	for _, table := range tables(r) {
		checkLeaps(t, table, api.OK)
		ticks := []int{0, 1, top - 1, top}
		for _, leap := range table {
			ticks = append(ticks, max(leap.At-1, 0), leap.At, min(leap.At+1, top))
		}
		for range 1000 {
			ticks = append(ticks, upTo(r, top))
		}
		for _, tick := range ticks {
			checkCivil(t, table, tick, civil(table, tick))
		}
	}
}

// TestTicks checks P8.6: the chapter's examples, civil times that no tick, one tick and several ticks have, and those beyond either end of time.
func TestTicks(t *testing.T) {
	for _, x := range []struct {
		civil int
		want  []int
	}{
		{201, []int{199, 200}}, {100, nil}, {99, []int{99}}, {101, nil}, {102, []int{100}}, {200, []int{198}}, {202, []int{201}},
		{0, []int{0}}, {-1, nil}, {top, []int{top - 1}}, {top + 1, []int{top}}, {top + 2, nil},
	} {
		checkTicks(t, example(), x.civil, x.want)
	}
	var all []int
	for i := range longest + 1 {
		all = append(all, 49+i)
	}
	checkTicks(t, longTable(), 48, []int{48})
	checkTicks(t, longTable(), 49, all)
	checkTicks(t, longTable(), 50, []int{82})
	for _, x := range []struct {
		table []api.Leap
		civil int
		want  []int
	}{
		{nil, 0, []int{0}}, {nil, top, []int{top}}, {nil, -1, nil}, {nil, top + 1, nil},
		{[]api.Leap{{At: 0, Offset: -100}}, -100, []int{0}}, {[]api.Leap{{At: 0, Offset: -100}}, -101, nil}, {[]api.Leap{{At: 0, Offset: -100}}, top - 100, []int{top}}, {[]api.Leap{{At: 0, Offset: -100}}, top - 99, nil},
		{[]api.Leap{{At: 0, Offset: 100}}, 99, nil}, {[]api.Leap{{At: 0, Offset: 100}}, 100, []int{0}}, {[]api.Leap{{At: 0, Offset: 100}}, top + 100, []int{top}}, {[]api.Leap{{At: 0, Offset: 100}}, top + 101, nil},
		{[]api.Leap{{At: top, Offset: -100}}, top - 100, []int{top - 100, top}}, {[]api.Leap{{At: top, Offset: -100}}, top, nil}, {[]api.Leap{{At: top, Offset: 0}}, top, []int{top}},
		{[]api.Leap{{At: 300, Offset: 4}, {At: 301, Offset: 4}}, 304, []int{300}}, {[]api.Leap{{At: 300, Offset: 4}, {At: 301, Offset: 4}}, 305, []int{301}},
	} {
		checkTicks(t, x.table, x.civil, x.want)
	}
}

// TestTicksExtreme checks P8.6: no tick has a civil time that is far from all of them, even if a difference overflows.
func TestTicksExtreme(t *testing.T) {
	for _, table := range tables(rand.New(rand.NewSource(86))) {
		for _, n := range append(extremes, -most, most, math.MinInt32, math.MaxInt32, -101, top+101) {
			checkTicks(t, table, n, nil)
		}
	}
}

// ticks returns, for each civil time, the ticks that have it, in increasing order.
func ticks(table []api.Leap) map[int][]int {
	all := map[int][]int{}
	for tick := range top + 1 {
		n := civil(table, tick)
		all[n] = append(all[n], tick)
	}
	return all
}

// TestTicksDefinition checks P8.6 for all civil times of some tables.
func TestTicksDefinition(t *testing.T) {
	r := rand.New(rand.NewSource(87))
	for _, table := range [][]api.Leap{
		{{At: 0, Offset: -100}, {At: 1, Offset: 100}, {At: top - 1, Offset: -100}, {At: top, Offset: 100}},
		someTable(r, longest, 30000),
	} {
		checkLeaps(t, table, api.OK)
		all := ticks(table)
		for n := -150; n <= top+150; n++ {
			checkTicks(t, table, n, all[n])
		}
	}
}

// TestTicksOfCivil checks P8.5 and P8.6 together for tables of all numbers of entries, around their entries: the ticks with a civil time have it, are in increasing order, and no other tick near by has it.
func TestTicksOfCivil(t *testing.T) {
	for _, table := range tables(rand.New(rand.NewSource(88))) {
		for _, leap := range table {
			for n := leap.At - 110; n <= leap.At+110; n += 5 {
				var want []int
				for tick := max(0, n-100); tick <= min(top, n+100); tick++ {
					if clock.Civil(table, tick) == n {
						want = append(want, tick)
					}
				}
				checkTicks(t, table, n, want)
			}
		}
	}
}

// TestCheckLeaps checks P8.7: the ends of the ranges of At and Offset, equal and decreasing At, and numbers of entries.
func TestCheckLeaps(t *testing.T) {
	for _, x := range []struct {
		table []api.Leap
		want  api.Errno
	}{
		{nil, api.OK}, {[]api.Leap{}, api.OK}, {example(), api.OK}, {longTable(), api.OK}, {longTable()[:31], api.OK},
		{append(longTable(), api.Leap{At: 900}), api.ErrLimit}, {make([]api.Leap, 33), api.ErrLimit}, {make([]api.Leap, 1000), api.ErrLimit},
		{[]api.Leap{{At: 0}}, api.OK}, {[]api.Leap{{At: -1}}, api.ErrRange}, {[]api.Leap{{At: top}}, api.OK}, {[]api.Leap{{At: top + 1}}, api.ErrRange},
		{[]api.Leap{{At: 5, Offset: 100}}, api.OK}, {[]api.Leap{{At: 5, Offset: 101}}, api.ErrRange}, {[]api.Leap{{At: 5, Offset: -100}}, api.OK}, {[]api.Leap{{At: 5, Offset: -101}}, api.ErrRange},
		{[]api.Leap{{At: 5}, {At: 6}}, api.OK}, {[]api.Leap{{At: 5}, {At: 5}}, api.ErrOrder}, {[]api.Leap{{At: 5}, {At: 4}}, api.ErrOrder}, {[]api.Leap{{At: 0}, {At: top}}, api.OK},
		{[]api.Leap{{At: 0, Offset: 7}, {At: 9, Offset: 7}, {At: 10, Offset: -7}}, api.OK},
		{[]api.Leap{{At: 5}, {At: 7}, {At: 6}}, api.ErrOrder}, {[]api.Leap{{At: 5}, {At: 7}, {At: 5}}, api.ErrOrder}, {make([]api.Leap, 32), api.ErrOrder},
	} {
		checkLeaps(t, x.table, x.want)
	}
	for _, n := range extremes {
		checkLeaps(t, []api.Leap{{At: n}}, api.ErrRange)
		checkLeaps(t, []api.Leap{{Offset: n}}, api.ErrRange)
		checkLeaps(t, []api.Leap{{At: 3}, {At: n, Offset: n}}, api.ErrRange)
	}
}

// TestCheckLeapsOrder checks the order of P8.7: the number of entries counts first, then the first entry at fault, and of an entry its range.
func TestCheckLeapsOrder(t *testing.T) {
	for _, x := range []struct {
		table []api.Leap
		want  api.Errno
	}{
		{append([]api.Leap{{At: -1, Offset: 101}}, longTable()...), api.ErrLimit},
		{append(longTable(), api.Leap{At: 3}), api.ErrLimit},
		{append(longTable(), api.Leap{At: -1}), api.ErrLimit},
		{[]api.Leap{{At: 3}, {At: 2, Offset: -101}}, api.ErrRange}, {[]api.Leap{{At: 3}, {At: 3, Offset: 101}}, api.ErrRange}, {[]api.Leap{{At: 3}, {At: -1}}, api.ErrRange},
		{[]api.Leap{{At: 3}, {At: 2}, {At: -1}}, api.ErrOrder}, {[]api.Leap{{At: 3}, {At: 3}, {At: 4, Offset: 101}}, api.ErrOrder},
		{[]api.Leap{{At: 3, Offset: 101}, {At: 2}}, api.ErrRange}, {[]api.Leap{{At: top + 1}, {At: 2}}, api.ErrRange},
	} {
		checkLeaps(t, x.table, x.want)
	}
}

// TestCheckLeapsEach checks P8.7 for an error at each place of a table.
func TestCheckLeapsEach(t *testing.T) {
	for i := range longest {
		for _, x := range []struct {
			leap api.Leap
			want api.Errno
		}{
			{api.Leap{At: -1}, api.ErrRange}, {api.Leap{At: top + 1}, api.ErrRange},
			{api.Leap{At: 50 + i, Offset: 101}, api.ErrRange}, {api.Leap{At: 50 + i, Offset: -101}, api.ErrRange},
			{api.Leap{At: 49 + i}, api.ErrOrder}, {api.Leap{At: 50 + i}, api.OK},
		} {
			table := longTable()
			table[i] = x.leap
			if i == 0 && x.want == api.ErrOrder {
				x.want = api.OK // the first entry has none before it
			}
			checkLeaps(t, table, x.want)
		}
	}
}

// TestChangedTicks checks R4: the ticks that were returned are new memory.
func TestChangedTicks(t *testing.T) {
	table := example()
	list := clock.Ticks(table, 201)
	list[0], list[1] = 7, 8
	_ = append(list[:1], 9)
	checkTicks(t, table, 201, []int{199, 200})
	if !slices.Equal(table, example()) {
		t.Errorf("the table is %v now", table)
	}
}

// TestTablesAreNotChanged checks R4: neither a table nor what lies behind it in memory changes, and a table that changed later counts as it is then.
func TestTablesAreNotChanged(t *testing.T) {
	all := append(example(), api.Leap{At: 150, Offset: 9})
	table := all[:2]
	for n := 90; n < 210; n++ {
		clock.Civil(table, n)
		clock.Ticks(table, n)
	}
	clock.CheckLeaps(table)
	clock.CheckLeaps(all)
	if !slices.Equal(all, append(example(), api.Leap{At: 150, Offset: 9})) {
		t.Errorf("the table is %v now", all)
	}
	table[1].Offset = -3
	checkCivil(t, table, 200, 197)
	checkTicks(t, table, 197, []int{195, 200})
}

// TestNoPanic checks that arguments outside their domain, a drift of 0 and tables that CheckLeaps refuses among them, are no reason to panic.
func TestNoPanic(t *testing.T) {
	some := append(extremes, -1, 0, 1, 5)
	for _, a := range some {
		for _, b := range some {
			clock.Advance(span(a, b), b, a)
			clock.Correlate(span(a, b), sample(0, 3, 5), a, b)
			clock.Correlate(span(b, a), sample(a, b, 5), math.MaxInt, 0)
			clock.Unwrap(a, b)
			clock.Judge(span(a, b), b, a)
			table := []api.Leap{{At: a, Offset: b}, {At: b, Offset: a}}
			clock.Civil(table, a)
			clock.Ticks(table, b)
		}
	}
}
