package orbit_test

import (
	"math/rand"
	"slices"
	"testing"

	"perigee/api"
	"perigee/orbit"
)

// TestCheckValid checks P9.1 for valid tables: the chapter's example, no windows, and equal From with each of the fields that decide the order.
func TestCheckValid(t *testing.T) {
	for _, table := range [][]api.Window{
		nil,
		{},
		example(),
		{contact(0, 0, 0, 1, 1), contact(11, 8, 0, top, 1000), cross(0, 1, 0, top, 1), cross(10, 11, 0, 1, 1000), eclipse(0, 0, top), eclipse(11, 0, 1), place(0, 0, 0, 1), place(11, 31, 0, top), eclipse(11, top-1, top)},
		{contact(3, 3, 5, 9, 1), cross(2, 3, 5, 9, 1), eclipse(1, 5, 9), place(0, 0, 5, 9)},
		{contact(0, 3, 5, 9, 1), contact(1, 2, 5, 9, 1), contact(2, 1, 5, 9, 1), contact(3, 0, 5, 9, 1)},
		{place(0, 0, 5, 9), place(0, 1, 5, 8), place(0, 31, 5, 7)},
		{place(7, 7, 4, 9), eclipse(6, 5, 9), cross(3, 5, 6, 9, 9), contact(2, 1, 7, 8, 8)},
	} {
		checkErr(t, table, api.OK)
	}
}

// many returns a valid table of n windows.
func many(n int) []api.Window {
	var t []api.Window
	for i := range n {
		t = append(t, eclipse(i%crafts, i, i+1))
	}
	return t
}

// TestCheckLimit checks P9.1 for tables of MaxWindows windows and of one more, and that ErrLimit comes first.
func TestCheckLimit(t *testing.T) {
	checkErr(t, many(api.MaxWindows-1), api.OK)
	checkErr(t, many(api.MaxWindows), api.OK)
	checkErr(t, many(api.MaxWindows+1), api.ErrLimit)
	checkErr(t, many(5*api.MaxWindows), api.ErrLimit)
	checkErr(t, make([]api.Window, api.MaxWindows), api.ErrRange)
	checkErr(t, make([]api.Window, api.MaxWindows+1), api.ErrLimit)
	full := many(api.MaxWindows)
	full[0].From = 1
	checkErr(t, full, api.ErrRange)
	slices.Reverse(full)
	full[len(full)-1].From = 0
	checkErr(t, full, api.ErrOrder)
	checkErr(t, append(full, full...), api.ErrLimit)
}

// TestCheckBounds checks P9.1: each field of a window of each kind is accepted from its least to its greatest value, and not beyond them.
func TestCheckBounds(t *testing.T) {
	const (
		kind = iota
		a
		b
		from
		until
		rate
	)
	for _, c := range []struct {
		w                      api.Window
		field, least, greatest int
	}{
		{contact(5, 5, 50, 60, 5), a, 0, 11}, {contact(5, 5, 50, 60, 5), b, 0, 8}, {contact(5, 5, 50, 60, 5), from, 0, 59}, {contact(5, 5, 50, 60, 5), until, 51, top}, {contact(5, 5, 50, 60, 5), rate, 1, 1000},
		{cross(4, 6, 50, 60, 5), a, 0, 5}, {cross(4, 6, 50, 60, 5), b, 5, 11}, {cross(4, 6, 50, 60, 5), from, 0, 59}, {cross(4, 6, 50, 60, 5), until, 51, top}, {cross(4, 6, 50, 60, 5), rate, 1, 1000}, {cross(0, 11, 50, 60, 5), a, 0, 10}, {cross(0, 11, 50, 60, 5), b, 1, 11}, {cross(10, 11, 50, 60, 5), b, 11, 11},
		{eclipse(5, 50, 60), a, 0, 11}, {eclipse(5, 50, 60), b, 0, 0}, {eclipse(5, 50, 60), from, 0, 59}, {eclipse(5, 50, 60), until, 51, top}, {eclipse(5, 50, 60), rate, 0, 0},
		{place(5, 5, 50, 60), a, 0, 11}, {place(5, 5, 50, 60), b, 0, 31}, {place(5, 5, 50, 60), from, 0, 59}, {place(5, 5, 50, 60), until, 51, top}, {place(5, 5, 50, 60), rate, 0, 0},
		{place(0, 0, 0, top), from, 0, top - 1}, {place(0, 0, 0, top), until, 1, top}, {place(0, 0, top-1, top), until, top, top},
	} {
		values := append([]int{c.least - 2, c.least - 1, c.least, c.least + 1, c.greatest - 1, c.greatest, c.greatest + 1, c.greatest + 2, -1, -1000}, extremes...)
		for _, n := range values {
			w := c.w
			*[]*int{kind: &w.Kind, a: &w.A, b: &w.B, from: &w.From, until: &w.Until, rate: &w.Rate}[c.field] = n
			want := api.ErrRange
			if c.least <= n && n <= c.greatest {
				want = api.OK
			}
			checkErr(t, []api.Window{w}, want)
			checkErr(t, []api.Window{eclipse(0, 0, 1), w, eclipse(11, top-1, top)}, wantAmong(w, want))
		}
	}
}

// wantAmong returns what Check returns of a window that is the middle one of three: its own error, or ErrOrder if it is well-formed but begins after the last one.
func wantAmong(w api.Window, alone api.Errno) api.Errno {
	if alone == api.OK && !slices.IsSortedFunc([]api.Window{eclipse(0, 0, 1), w, eclipse(11, top-1, top)}, later) {
		return api.ErrOrder
	}
	return alone
}

// TestCheckKinds checks P9.1 for kinds that there are not, whatever the other fields are.
func TestCheckKinds(t *testing.T) {
	for _, kind := range append([]int{-2, -1, 0, 5, 6, 100}, extremes...) {
		for _, w := range []api.Window{contact(1, 2, 5, 9, 1), cross(1, 2, 5, 9, 1), eclipse(1, 5, 9), eclipse(0, 5, 9), place(1, 2, 5, 9)} {
			w.Kind = kind
			checkErr(t, []api.Window{w}, api.ErrRange)
		}
	}
	checkErr(t, []api.Window{{}}, api.ErrRange)
	for _, w := range []api.Window{cross(3, 3, 5, 9, 1), cross(3, 2, 5, 9, 1), cross(0, 0, 5, 9, 1), cross(11, 0, 5, 9, 1), cross(11, 11, 5, 9, 1), cross(11, 12, 5, 9, 1), contact(0, 9, 5, 9, 1), contact(0, 11, 5, 9, 1), place(0, 2, 9, 5), place(0, 2, 5, 5)} {
		checkErr(t, []api.Window{w}, api.ErrRange)
	}
}

// TestCheckErrors checks P9.1 for tables to which several errors apply: ErrRange comes before ErrOrder, wherever the windows are.
func TestCheckErrors(t *testing.T) {
	bad := contact(0, 0, 7, 9, 0)
	for _, table := range [][]api.Window{
		{bad, eclipse(0, 5, 9)},
		{eclipse(0, 5, 9), eclipse(0, 4, 9), bad},
		{eclipse(0, 5, 9), eclipse(0, 6, 9), bad},
		{eclipse(0, 5, 9), eclipse(0, 5, 9), eclipse(0, 10, 12), bad},
		{bad, bad},
		{eclipse(0, 5, 9), bad, eclipse(0, 5, 9)},
	} {
		checkErr(t, table, api.ErrRange)
	}
}

// TestCheckOrder checks P9.1 for tables that are not sorted, by From and by each of the fields that decide between equal From.
func TestCheckOrder(t *testing.T) {
	for _, c := range []struct{ v, w api.Window }{
		{place(9, 9, 5, 9), contact(0, 0, 6, 7, 1)},
		{eclipse(9, 5, 6), eclipse(9, 6, 7)},
		{contact(9, 8, 5, 9, 9), cross(0, 1, 5, 9, 1)}, {cross(9, 10, 5, 9, 9), eclipse(0, 5, 9)}, {eclipse(9, 5, 9), place(0, 0, 5, 9)}, {contact(9, 8, 5, 9, 9), place(0, 0, 5, 9)},
		{contact(1, 8, 5, 9, 9), contact(2, 0, 5, 7, 1)}, {cross(1, 8, 5, 9, 9), cross(2, 3, 5, 7, 1)}, {eclipse(1, 5, 9), eclipse(2, 5, 7)}, {place(1, 8, 5, 9), place(2, 0, 5, 7)},
		{contact(1, 7, 5, 9, 9), contact(1, 8, 5, 7, 1)}, {cross(1, 7, 5, 9, 9), cross(1, 8, 5, 7, 1)}, {place(1, 7, 5, 9), place(1, 8, 5, 7)},
	} {
		checkErr(t, []api.Window{c.v, c.w}, api.OK)
		checkErr(t, []api.Window{c.w, c.v}, api.ErrOrder)
		checkErr(t, []api.Window{eclipse(0, 0, 2), c.w, c.v, eclipse(0, 10, 12)}, api.ErrOrder)
		checkErr(t, []api.Window{c.w, c.v, eclipse(11, 10, 12)}, api.ErrOrder)
		checkErr(t, []api.Window{eclipse(11, 0, 2), c.w, c.v}, api.ErrOrder)
	}
}

// TestCheckOverlap checks P9.1 for windows of a key that touch and that overlap, next to each other and with others between them, and for windows of other keys that overlap.
func TestCheckOverlap(t *testing.T) {
	for _, w := range []api.Window{contact(2, 3, 5, 9, 1), cross(2, 3, 5, 9, 1), eclipse(2, 5, 9), place(2, 3, 5, 9)} {
		for _, c := range []struct {
			from, until int
			want        api.Errno
		}{{9, 12, api.OK}, {10, 12, api.OK}, {8, 12, api.ErrOrder}, {8, 9, api.ErrOrder}, {6, 7, api.ErrOrder}, {5, 6, api.ErrOrder}, {5, 9, api.ErrOrder}, {5, 12, api.ErrOrder}} {
			v := w
			v.From, v.Until, v.Rate = c.from, c.until, w.Rate*2
			checkErr(t, []api.Window{w, v}, c.want)
			checkErr(t, []api.Window{w, place(11, 31, 5, 20), v, place(10, 31, v.From, 20)}, orderOf([]api.Window{w, place(11, 31, 5, 20), v, place(10, 31, v.From, 20)}, c.want))
			early := w
			early.From, early.Until = 0, 3
			checkErr(t, []api.Window{early, eclipse(11, 4, 30), w, eclipse(10, 5, 30), v}, orderOf([]api.Window{w, eclipse(10, 5, 30), v}, c.want))
			for _, other := range others(v) {
				checkErr(t, sorted(w, other), api.OK)
			}
		}
	}
}

// orderOf returns ErrOrder if a table is not sorted, and otherwise e.
func orderOf(t []api.Window, e api.Errno) api.Errno {
	if !slices.IsSortedFunc(t, later) {
		return api.ErrOrder
	}
	return e
}

// others returns windows like w whose keys differ from that of w in one field.
func others(w api.Window) []api.Window {
	a, b := w, w
	a.A--
	b.B++
	if w.Kind == api.WinEclipse {
		return []api.Window{a, contact(w.A, w.B, w.From, w.Until, 1), place(w.A, w.B, w.From, w.Until)}
	}
	return []api.Window{a, b, eclipse(w.A, w.From, w.Until)}
}

// TestCheckFarOverlap checks P9.1 for two windows that overlap and that are the first and the last one of a long table.
func TestCheckFarOverlap(t *testing.T) {
	table := []api.Window{contact(3, 4, 0, 5000, 7)}
	for i := range api.MaxWindows - 2 {
		table = append(table, eclipse(i%crafts, 10+20*i, 20+20*i))
	}
	checkErr(t, append(slices.Clone(table), contact(3, 4, 5000, 5001, 7)), api.OK)
	checkErr(t, append(slices.Clone(table), contact(3, 4, 4999, 5001, 7)), api.ErrOrder)
	checkErr(t, append(slices.Clone(table), contact(3, 5, 4999, 5001, 7)), api.OK)
}

// isWellFormed tells whether a window is well-formed, by the chapter's definition.
func isWellFormed(w api.Window) bool {
	if !(0 <= w.From && w.From < w.Until && w.Until <= top && 0 <= w.A && w.A <= 11) {
		return false
	}
	rated := 1 <= w.Rate && w.Rate <= 1000
	return w.Kind == api.WinContact && 0 <= w.B && w.B <= 8 && rated ||
		w.Kind == api.WinCross && w.A < w.B && w.B <= 11 && rated ||
		w.Kind == api.WinEclipse && w.B == 0 && w.Rate == 0 ||
		w.Kind == api.WinPlace && 0 <= w.B && w.B <= 31 && w.Rate == 0
}

// wantCheck returns what Check returns, by the chapter's definition.
func wantCheck(t []api.Window) api.Errno {
	for _, w := range t {
		if !isWellFormed(w) {
			return api.ErrRange
		}
	}
	for i, w := range t {
		for _, v := range t[:i] {
			if later(v, w) > 0 || sameKey(v, w) && max(v.From, w.From) < min(v.Until, w.Until) {
				return api.ErrOrder
			}
		}
	}
	return api.OK
}

// TestCheckDefinition compares Check with the chapter's definition (P9.1) for random tables of which some windows were changed or exchanged.
func TestCheckDefinition(t *testing.T) {
	r := rand.New(rand.NewSource(91))
	counts := map[api.Errno]int{}
	for range 60000 {
		table := someTable(r, 12, 40)
		for range r.Intn(3) {
			if len(table) > 0 {
				disturb(r, table)
			}
		}
		want := wantCheck(table)
		counts[want]++
		if got := orbit.Check(table); got != want {
			t.Fatalf("Check(%v) = %d, want %d", table, got, want)
		}
	}
	if counts[api.OK] < 1000 || counts[api.ErrRange] < 1000 || counts[api.ErrOrder] < 1000 {
		t.Error("the tables are one-sided:", counts)
	}
}

// disturb changes a table at random.
func disturb(r *rand.Rand, t []api.Window) {
	i, j := r.Intn(len(t)), r.Intn(len(t))
	w := &t[i]
	switch r.Intn(6) {
	case 0:
		t[i], t[j] = t[j], t[i]
	case 1:
		t[i] = t[j]
	case 2:
		w.Until += r.Intn(9) - 2
	case 3:
		w.From += r.Intn(5) - 2
	case 4:
		*[]*int{&w.Kind, &w.A, &w.B, &w.Rate}[r.Intn(4)] += r.Intn(3) - 1
	}
}
