package journal_test

import (
	"testing"

	"perigee/api"
	"perigee/journal"
	"perigee/memory"
)

// TestFormat checks P7.1 for the smallest, the largest and other memories: the journal has no records, and its capacity is half the words minus 4.
func TestFormat(t *testing.T) {
	for words, free := range map[int]int{16: 3, 17: 3, 18: 4, 19: 4, 137: 63, 138: 64, 140: 64, 4095: 64, 4096: 64} {
		m := newMemory(t, words)
		j := format(t, m)
		if j.Free() != free {
			t.Errorf("Free = %d for %d words, want %d", j.Free(), words, free)
		}
		checkStored(t, m, j, nil)
		if !m.On() {
			t.Errorf("the power is off")
		}
	}
}

// TestFormatSmall checks P7.1: fewer than 16 words are too few, which counts before the power, and nothing is written.
func TestFormatSmall(t *testing.T) {
	for words := 1; words < 16; words++ {
		m := newMemory(t, words)
		for range 2 {
			checkUntouched(t, m, func() {
				j, e := journal.Format(m)
				checkFails(t, "Format", j, e, api.ErrLimit)
			})
			m.Fuse(0)
		}
	}
}

// TestFormatWithoutPower checks P7.1 for memories with and without a journal, and that Format succeeds after Reset.
func TestFormatWithoutPower(t *testing.T) {
	for _, words := range sizes {
		used, _ := filled(t, words, [][]uint32{{1, 2}})
		for _, m := range []*memory.Memory{newMemory(t, words), used} {
			m.Fuse(0)
			checkUntouched(t, m, func() {
				j, e := journal.Format(m)
				checkFails(t, "Format", j, e, api.ErrPower)
			})
			m.Reset()
			checkStored(t, m, format(t, m), nil)
		}
	}
}

// TestFormatAgain checks P7.1: the new journal is in place of the old one, whose records do not come back, however many there were.
func TestFormatAgain(t *testing.T) {
	for _, words := range sizes {
		m := newMemory(t, words)
		for round := range 5 {
			j := format(t, m)
			checkStored(t, m, j, nil)
			var want [][]uint32
			for i := range round {
				if j.Free() < 0 {
					break
				}
				record := mixed(min(i, j.Free()), round)
				want = append(want, record)
				checkAppend(t, j, record, api.OK)
				checkStored(t, m, j, want)
			}
		}
		m, j := filled(t, words, fullOf(capacityOf(words)))
		checkHas(t, j, words, fullOf(capacityOf(words)))
		checkStored(t, m, format(t, m), nil)
	}
}

// TestFormatAfterFlips checks P7.1: it does not matter what the words of the memory are, nor whether they can be read.
func TestFormatAfterFlips(t *testing.T) {
	for _, words := range sizes {
		used, _ := filled(t, words, fullOf(capacityOf(words)))
		for _, m := range []*memory.Memory{newMemory(t, words), used} {
			flip(m, 3, 8)
			j := format(t, m)
			checkHas(t, j, words, nil)
			checkOpensOrFlip(t, m, nil)
			checkReplace(t, j, fullOf(capacityOf(words)), api.OK)
			checkHas(t, j, words, fullOf(capacityOf(words)))
			checkOpensOrFlip(t, m, fullOf(capacityOf(words)))
		}
	}
}

// TestOpen checks P7.2: Open returns the journal, as often as it is called, also of a clone of the memory, without power, and without a write.
func TestOpen(t *testing.T) {
	for _, words := range sizes {
		for _, records := range [][][]uint32{nil, {{}}, {{1, 2}}, {{}, {0xffffffff}, {}}, fullOf(capacityOf(words))} {
			m, _ := filled(t, words, records)
			checkUntouched(t, m, func() {
				checkHas(t, reopen(t, m), words, records)
				checkHas(t, reopen(t, m), words, records)
				checkHas(t, reopen(t, m.Clone()), words, records)
			})
			m.Fuse(0)
			checkUntouched(t, m, func() { checkHas(t, reopen(t, m), words, records) })
			m.Reset()
			m.Fuse(1)
			flip(m, 5) // what Open corrects stays as it is
			checkUntouched(t, m, func() { checkHas(t, reopen(t, m), words, records) })
		}
	}
}

// TestOpenSmall checks P7.2: fewer than 16 words are too few, which counts before flips.
func TestOpenSmall(t *testing.T) {
	for words := 1; words < 16; words++ {
		m := newMemory(t, words)
		for range 2 {
			j, e := journal.Open(m)
			checkFails(t, "Open", j, e, api.ErrLimit)
			flip(m, 1, 2)
		}
	}
}

// TestOpenNeverWritten checks P7.2 for memories that have no journal, with and without power, as they are and with one flip in each word.
func TestOpenNeverWritten(t *testing.T) {
	for _, words := range sizes {
		m := newMemory(t, words)
		for range 3 {
			checkUntouched(t, m, func() {
				j, e := journal.Open(m)
				checkFails(t, "Open", j, e, api.ErrForm)
				j, e = journal.Open(m.Clone())
				checkFails(t, "Open", j, e, api.ErrForm)
			})
			m.Fuse(0)
			flip(m, 7)
		}
	}
}

// TestOpenFlipped checks P7.2: if no word can be read, Open reports that, with and without power, and does not write.
func TestOpenFlipped(t *testing.T) {
	for _, words := range sizes {
		for _, records := range [][][]uint32{nil, {{1, 2}}, fullOf(capacityOf(words))} {
			m, _ := filled(t, words, records)
			flip(m, 4, 30)
			for range 2 {
				checkUntouched(t, m, func() {
					j, e := journal.Open(m)
					checkFails(t, "Open", j, e, api.ErrFlip)
				})
				m.Fuse(0)
			}
		}
	}
}

// TestAppend checks P7.3: records of all lengths are added at the end, also by a journal that Open returned.
func TestAppend(t *testing.T) {
	m := newMemory(t, 4096)
	j := format(t, m)
	var want [][]uint32
	for n := 0; n <= 64; n += 4 {
		for _, record := range [][]uint32{mixed(n, n), make([]uint32, n)} {
			want = with(want, record)
			checkAppend(t, j, record, api.OK)
			checkStored(t, m, j, want)
		}
		j = reopen(t, m)
	}
	want = with(want, nil)
	checkAppend(t, j, nil, api.OK)
	checkStored(t, m, j, want)
}

// TestAppendWords checks P7.3: all words may be in a record, in each place, also those that might mean something to the journal.
func TestAppendWords(t *testing.T) {
	m := newMemory(t, 4096)
	j := format(t, m)
	var want [][]uint32
	for bit := range 32 {
		for _, w := range []uint32{1 << bit, 1<<bit - 1, ^uint32(0) << bit} {
			record := []uint32{w, 0, ^w, w}
			want = with(want, record)
			checkAppend(t, j, record, api.OK)
		}
	}
	checkStored(t, m, j, want)
}

// TestAppendTooLong checks P7.3: more than 64 words are too many, which counts before the capacity and the power.
func TestAppendTooLong(t *testing.T) {
	for _, words := range sizes {
		for _, records := range [][][]uint32{nil, fullOf(capacityOf(words))} {
			m, j := filled(t, words, records)
			for range 2 {
				for _, n := range []int{65, 66, 128, 5000, 1 << 16} {
					checkUntouched(t, m, func() { checkAppend(t, j, mixed(n, 1), api.ErrLimit) })
					checkStored(t, m, j, records)
				}
				m.Fuse(0)
			}
		}
	}
}

// TestAppendFits checks P7.3 for each rest of the capacity: a record that just fits is accepted, one that just does not is not, which counts before the power.
func TestAppendFits(t *testing.T) {
	for _, words := range []int{16, 17, 18, 40, 41, 200} {
		for used := range capacityOf(words) + 1 {
			records := fullOf(used)
			m, j := filled(t, words, records)
			rest := capacityOf(words) - used
			for range 2 {
				if rest < 65 {
					checkUntouched(t, m, func() { checkAppend(t, j, mixed(rest, 9), api.ErrFull) })
					checkUntouched(t, m, func() { checkAppend(t, j, make([]uint32, 64), api.ErrFull) })
				}
				checkStored(t, m, j, records)
				m.Fuse(0)
			}
			m.Reset()
			if n := min(64, rest-1); n >= 0 {
				checkAppend(t, j, mixed(n, 9), api.OK)
				checkStored(t, m, j, with(records, mixed(n, 9)))
			}
		}
	}
}

// TestAppendFills checks P7.3 and P7.5: the whole capacity of each memory can be used, by the shortest and by the longest records.
func TestAppendFills(t *testing.T) {
	for _, words := range sizes {
		for _, longest := range []int{0, 1, 64} {
			m := newMemory(t, words)
			j := format(t, m)
			var want [][]uint32
			for j.Free() >= 0 {
				record := mixed(min(longest, j.Free()), len(want))
				want = append(want, record)
				checkAppend(t, j, record, api.OK)
			}
			if sizeOf(want) != capacityOf(words) {
				t.Errorf("the records take %d, want %d", sizeOf(want), capacityOf(words))
			}
			checkStored(t, m, j, want)
			checkUntouched(t, m, func() { checkAppend(t, j, nil, api.ErrFull) })
			checkStored(t, m, j, want)
		}
	}
}

// TestAppendWithoutPower checks P7.3: nothing is added, until Reset.
func TestAppendWithoutPower(t *testing.T) {
	m, j := filled(t, 40, [][]uint32{{5, 6}, {}})
	m.Fuse(0)
	for _, record := range [][]uint32{nil, {7}, mixed(11, 1)} {
		checkUntouched(t, m, func() { checkAppend(t, j, record, api.ErrPower) })
		checkStored(t, m, j, [][]uint32{{5, 6}, {}})
	}
	m.Reset()
	checkAppend(t, j, []uint32{7}, api.OK)
	checkStored(t, m, j, [][]uint32{{5, 6}, {}, {7}})
}

// TestReplace checks P7.4: whatever there was, there are the new records then, also if a journal that Open returned replaces them.
func TestReplace(t *testing.T) {
	for _, words := range sizes {
		lists := [][][]uint32{nil, {nil}, {{0}}, {{}, {}, {}}, {{1}, {2}}, {{3, 4, 5}}, fullOf(capacityOf(words)), fullOf(capacityOf(words) - 1)}
		for _, before := range lists {
			for _, after := range lists {
				m, j := filled(t, words, before)
				checkReplace(t, j, after, api.OK)
				checkStored(t, m, j, after)
				j = reopen(t, m)
				checkReplace(t, j, before, api.OK)
				checkStored(t, m, j, before)
				checkReplace(t, j, nil, api.OK)
				checkStored(t, m, j, nil)
			}
		}
	}
}

// TestReplaceTooLong checks P7.4: a record of more than 64 words in any place is too long, which counts before the capacity and the power.
func TestReplaceTooLong(t *testing.T) {
	long := mixed(65, 1)
	for _, words := range sizes {
		full := fullOf(capacityOf(words))
		lists := [][][]uint32{{long}, {{1}, long}, {long, {1}}, {{1}, make([]uint32, 1<<16), {2}}, with(full, long), append([][]uint32{long}, full...), with(with(full, nil), long)}
		for _, records := range lists {
			m, j := filled(t, words, [][]uint32{{1, 2}})
			for range 2 {
				checkUntouched(t, m, func() { checkReplace(t, j, records, api.ErrLimit) })
				checkStored(t, m, j, [][]uint32{{1, 2}})
				m.Fuse(0)
			}
		}
	}
}

// TestReplaceTooMany checks P7.4: records that just do not fit are refused, which counts before the power, whatever the journal has.
func TestReplaceTooMany(t *testing.T) {
	for _, words := range sizes {
		capacity := capacityOf(words)
		full := fullOf(capacity)
		for _, records := range [][][]uint32{with(full, nil), make([][]uint32, capacity+1), fullOf(capacity + 1), fullOf(2 * capacity), fullOf(100000)} {
			for _, before := range [][][]uint32{nil, {{1, 2}}, full} {
				m, j := filled(t, words, before)
				for range 2 {
					checkUntouched(t, m, func() { checkReplace(t, j, records, api.ErrFull) })
					checkStored(t, m, j, before)
					m.Fuse(0)
				}
			}
		}
	}
}

// TestReplaceWithoutPower checks P7.4: nothing is replaced, until Reset.
func TestReplaceWithoutPower(t *testing.T) {
	m, j := filled(t, 40, [][]uint32{{5, 6}, {}})
	m.Fuse(0)
	for _, records := range [][][]uint32{nil, {{5, 6}, {}}, {{7}}, fullOf(16)} {
		checkUntouched(t, m, func() { checkReplace(t, j, records, api.ErrPower) })
		checkStored(t, m, j, [][]uint32{{5, 6}, {}})
	}
	m.Reset()
	checkReplace(t, j, [][]uint32{{7}}, api.OK)
	checkStored(t, m, j, [][]uint32{{7}})
}

// TestRecordsWithoutPower checks P7.5: Records and Free do not need power and write nothing.
func TestRecordsWithoutPower(t *testing.T) {
	for _, words := range sizes {
		records := fullOf(capacityOf(words) - 1)
		m, j := filled(t, words, records)
		m.Fuse(0)
		checkUntouched(t, m, func() { checkHas(t, j, words, records) })
	}
}

// TestJournalsAreIndependent checks R5: the journal of one memory knows nothing of that of another one, be it a clone.
func TestJournalsAreIndependent(t *testing.T) {
	m, j := filled(t, 40, [][]uint32{{1, 2}})
	clone := m.Clone()
	k := reopen(t, clone)
	checkAppend(t, j, []uint32{3}, api.OK)
	checkStored(t, clone, k, [][]uint32{{1, 2}})
	checkReplace(t, k, [][]uint32{{4}}, api.OK)
	checkStored(t, m, j, [][]uint32{{1, 2}, {3}})
	checkStored(t, clone, k, [][]uint32{{4}})
	clone.Fuse(0)
	checkAppend(t, j, []uint32{5}, api.OK)
	checkAppend(t, k, []uint32{5}, api.ErrPower)
}

// TestExamples checks the examples of the chapter.
func TestExamples(t *testing.T) {
	m := newMemory(t, 16)
	j := format(t, m)
	checkFree := func(want int) {
		t.Helper()
		if got := j.Free(); got != want {
			t.Errorf("Free = %d, want %d", got, want)
		}
	}
	checkFree(3)
	checkAppend(t, j, []uint32{1, 2}, api.OK)
	checkFree(0)
	checkAppend(t, j, []uint32{}, api.OK)
	checkFree(-1)
	checkAppend(t, j, []uint32{1, 2}, api.ErrFull)

	m = newMemory(t, 16)
	j = format(t, m)
	m.Fuse(0)
	checkAppend(t, j, []uint32{1, 2}, api.ErrPower)
	checkStored(t, m, j, nil)
}
