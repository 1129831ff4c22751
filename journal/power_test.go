package journal_test

import (
	"testing"

	"perigee/api"
	"perigee/journal"
	"perigee/memory"
)

// change is a change of a journal: what it does, and the records that a journal with the records before has afterwards.
type change struct {
	apply func(j *journal.Journal) api.Errno
	after func(before [][]uint32) [][]uint32
}

// changes returns calls of Append and Replace. Each of them is possible if the records before take at most half the capacity.
func changes(words int) []change {
	var list []change
	for _, n := range []int{0, 1, 3} {
		record := mixed(n, 7)
		list = append(list, change{
			func(j *journal.Journal) api.Errno { return j.Append(record) },
			func(before [][]uint32) [][]uint32 { return with(before, record) },
		})
	}
	capacity := capacityOf(words)
	for _, records := range [][][]uint32{nil, {{}}, {{8}}, fullOf(capacity), make([][]uint32, capacity)} {
		list = append(list, change{
			func(j *journal.Journal) api.Errno { return j.Replace(records) },
			func([][]uint32) [][]uint32 { return records },
		})
	}
	return list
}

// TestPowerLoss checks P7.6 for a power loss after each number of writes of an Append and of a Replace: the records are the ones before if it returns ErrPower, and otherwise the new ones; the same journal, or the one that Open returns, can be used after Reset.
func TestPowerLoss(t *testing.T) {
	for _, words := range []int{24, 25, 60} {
		for _, before := range [][][]uint32{nil, {{1}}, fullOf(capacityOf(words) / 2)} {
			for _, c := range changes(words) {
				for _, again := range []bool{false, true} {
					for n := 0; losePower(t, words, n, before, c, again); n++ {
					}
				}
			}
		}
	}
}

// losePower lets the power fail after n writes of a change and checks the records. It reports whether the change returned ErrPower.
func losePower(t *testing.T, words, n int, before [][]uint32, c change, again bool) bool {
	t.Helper()
	m, j := filled(t, words, before)
	m.Fuse(n)
	e := c.apply(j)
	want := before
	switch {
	case e == api.OK && n > 0:
		want = c.after(before)
	case e != api.ErrPower || m.On():
		t.Fatalf("a change returned %d after a power loss after %d writes", e, n)
	}
	checkStored(t, m, j, want)
	m.Reset()
	checkStored(t, m, j, want)
	if again {
		j = reopen(t, m)
	}
	for _, next := range []change{c, {
		func(j *journal.Journal) api.Errno { return j.Replace([][]uint32{{5, 6}}) },
		func([][]uint32) [][]uint32 { return [][]uint32{{5, 6}} },
	}, c} {
		if sizeOf(next.after(want)) > capacityOf(words) {
			continue
		}
		if e := next.apply(j); e != api.OK {
			t.Fatalf("a change after Reset returned %d", e)
		}
		want = next.after(want)
		checkStored(t, m, j, want)
	}
	return e == api.ErrPower
}

// TestPowerLossAtEnd checks P7.6: if the power goes off with the last write of a change, the change was made, and it stays.
func TestPowerLossAtEnd(t *testing.T) {
	for _, words := range []int{24, 60} {
		for _, c := range changes(words) {
			before := [][]uint32{{1}, {2}}
			m, j := filled(t, words, before)
			writes := m.Writes()
			if e := c.apply(j); e != api.OK {
				t.Fatalf("a change returned %d", e)
			}
			n := m.Writes() - writes
			m, j = filled(t, words, before)
			m.Fuse(n)
			if e := c.apply(j); e != api.OK || m.On() {
				t.Errorf("a change of %d writes returned %d, and the power is on: %t", n, e, m.On())
			}
			checkStored(t, m, j, c.after(before))
			checkAppend(t, j, nil, wantAtEnd(words, c.after(before)))
			checkStored(t, m, j, c.after(before))
			m.Reset()
			checkStored(t, m, j, c.after(before))
		}
	}
}

// wantAtEnd returns what Append of an empty record returns without power.
func wantAtEnd(words int, records [][]uint32) api.Errno {
	if freeAfter(words, records) < 0 {
		return api.ErrFull
	}
	return api.ErrPower
}

// TestRepeatedPowerLoss checks P7.6: many interrupted changes in a row, each by another journal or by the same one, leave nothing behind.
func TestRepeatedPowerLoss(t *testing.T) {
	const words = 40
	for _, again := range []bool{false, true} {
		want := [][]uint32{{1, 2}, {3}}
		m, j := filled(t, words, want)
		for n := range 60 {
			for _, c := range changes(words) {
				m.Fuse(n % 8)
				if sizeOf(c.after(want)) <= capacityOf(words) && c.apply(j) == api.OK {
					want = c.after(want)
				}
				checkStored(t, m, j, want)
				m.Reset()
				if again {
					j = reopen(t, m)
				}
				if sizeOf(want) > 6 {
					want = [][]uint32{{uint32(n)}}
					checkReplace(t, j, want, api.OK)
					checkStored(t, m, j, want)
				}
			}
		}
	}
}

// TestErrorsChangeNothing checks P7.6 for the errors ErrLimit and ErrFull, while a fuse burns: they take no write of it.
func TestErrorsChangeNothing(t *testing.T) {
	want := [][]uint32{{1, 2}, {3}}
	m, j := filled(t, 40, want)
	m.Fuse(1)
	for _, apply := range []func(){
		func() { checkAppend(t, j, mixed(65, 1), api.ErrLimit) },
		func() { checkAppend(t, j, mixed(11, 1), api.ErrFull) },
		func() { checkReplace(t, j, [][]uint32{mixed(65, 1)}, api.ErrLimit) },
		func() { checkReplace(t, j, fullOf(17), api.ErrFull) },
	} {
		checkUntouched(t, m, apply)
		checkStored(t, m, j, want)
	}
}

// TestFormatPowerLoss checks P7.1 for a power loss after each number of writes of a Format: with ErrPower there is no journal, otherwise one without records, and the next Format has the usual result.
func TestFormatPowerLoss(t *testing.T) {
	for _, words := range []int{16, 17, 60, 4096} {
		full := fullOf(capacityOf(words))
		used, j := filled(t, words, full)
		replaced := used.Clone()
		checkReplace(t, reopen(t, replaced), [][]uint32{{1, 2}}, api.OK)
		checkHas(t, j, words, full)
		for _, before := range []*memory.Memory{newMemory(t, words), used, replaced} {
			for n := 0; formatLosingPower(t, before.Clone(), n); n++ {
			}
		}
	}
}

// formatLosingPower lets the power fail after n writes of a Format. It reports whether Format returned ErrPower.
func formatLosingPower(t *testing.T, m *memory.Memory, n int) bool {
	t.Helper()
	m.Fuse(n)
	j, e := journal.Format(m)
	if e == api.OK && n > 0 {
		checkStored(t, m, j, nil)
		m.Reset()
		checkStored(t, m, j, nil)
	} else {
		checkFails(t, "Format", j, e, api.ErrPower)
		if m.On() {
			t.Errorf("the power is on after ErrPower")
		}
		m.Reset()
		j = format(t, m)
	}
	checkStored(t, m, j, nil)
	checkAppend(t, j, []uint32{4}, api.OK)
	checkStored(t, m, j, [][]uint32{{4}})
	checkReplace(t, j, [][]uint32{{5}, {6}}, api.OK)
	checkStored(t, m, j, [][]uint32{{5}, {6}})
	return e == api.ErrPower
}
