package journal_test

import (
	"slices"
	"testing"

	"perigee/api"
)

// TestChangedArguments checks R4: a journal does not keep records that it was given, nor the list of them.
func TestChangedArguments(t *testing.T) {
	m, j := filled(t, 60, nil)
	record := []uint32{1, 2, 3}
	checkAppend(t, j, record, api.OK)
	record[0] = 99
	checkStored(t, m, j, [][]uint32{{1, 2, 3}})

	records := [][]uint32{{4}, {5, 6}, {}}
	checkReplace(t, j, records, api.OK)
	records[1][1] = 99
	records[0], records[2] = nil, []uint32{7}
	checkStored(t, m, j, [][]uint32{{4}, {5, 6}, {}})
	checkAppend(t, j, []uint32{8}, api.OK)
	checkStored(t, m, j, [][]uint32{{4}, {5, 6}, {}, {8}})
}

// TestArgumentsAreNotChanged checks R4: neither records nor what lies behind them in memory change, with and without power.
func TestArgumentsAreNotChanged(t *testing.T) {
	m, j := filled(t, 60, [][]uint32{{1}})
	all := []uint32{1, 2, 3, 4, 5, 6}
	list := [][]uint32{all[0:2], all[2:3], all[3:3], all[4:6]}
	for range 2 {
		j.Append(all[1:3])
		j.Append(all[:0])
		j.Replace(list[:2])
		j.Append(all[2:5])
		j.Records()
		m.Fuse(0)
	}
	if !slices.Equal(all, []uint32{1, 2, 3, 4, 5, 6}) || !alike(list, [][]uint32{{1, 2}, {3}, {}, {5, 6}}) {
		t.Errorf("the arguments are %v, %v now", all, list)
	}
}

// TestChangedResults checks R4: records that were returned are new memory, of which no two share any.
func TestChangedResults(t *testing.T) {
	want := [][]uint32{{1, 2}, {}, {3}, {4, 5}}
	m, j := filled(t, 60, want)
	kept := j.Records()
	for _, spoil := range []func(records [][]uint32){
		func(records [][]uint32) { records[0][1] = 99 },
		func(records [][]uint32) { records[2][0] = 0 },
		func(records [][]uint32) { records[1], records[3] = records[0], nil },
		func(records [][]uint32) { _ = append(records[:0], []uint32{99}) },
		func(records [][]uint32) { _ = append(records, []uint32{99}) },
	} {
		spoil(j.Records())
		checkStored(t, m, j, want)
		k := reopen(t, m)
		spoil(k.Records())
		checkStored(t, m, k, want)
		if !alike(kept, want) {
			t.Errorf("records that were returned before are %v now", kept)
		}
	}
	records := j.Records()
	for i := range records {
		_ = append(records[i], 99, 99, 99)
		spare := records[i][:cap(records[i])]
		for n := len(records[i]); n < len(spare); n++ {
			spare[n] = 99
		}
	}
	if !alike(records, want) {
		t.Errorf("records of one result share memory: %v", records)
	}
	checkStored(t, m, j, want)
}

// TestResultsAreKept checks R4: records that were returned stay what they are when the journal changes.
func TestResultsAreKept(t *testing.T) {
	want := [][]uint32{{1, 2}, {}, {3}}
	m, j := filled(t, 60, want)
	kept := j.Records()
	checkAppend(t, j, []uint32{9, 9}, api.OK)
	m.Fuse(2)
	checkAppend(t, j, []uint32{8, 8, 8}, api.ErrPower)
	m.Reset()
	checkReplace(t, j, [][]uint32{{7}, {7}, {7}}, api.OK)
	checkReplace(t, j, nil, api.OK)
	checkAppend(t, j, []uint32{6, 6}, api.OK)
	if !alike(kept, want) {
		t.Errorf("records that were returned are %v now", kept)
	}
}
