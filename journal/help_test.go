package journal_test

import (
	"math/rand"
	"slices"
	"testing"

	"perigee/api"
	"perigee/journal"
	"perigee/memory"
)

const codeBits = 39 // bits of a code word that can be flipped

// sizes are numbers of words that a memory with a journal may have.
var sizes = []int{16, 17, 18, 40, 4095, 4096}

// newMemory returns a memory that was never written.
func newMemory(t *testing.T, words int) *memory.Memory {
	t.Helper()
	m, e := memory.New(words)
	if e != api.OK {
		t.Fatalf("memory.New(%d) = %d", words, e)
	}
	return m
}

// format formats a memory whose power is on.
func format(t *testing.T, m *memory.Memory) *journal.Journal {
	t.Helper()
	j, e := journal.Format(m)
	if j == nil || e != api.OK {
		t.Fatalf("Format = %v, %d", j, e)
	}
	return j
}

// reopen opens a memory that has a journal.
func reopen(t *testing.T, m *memory.Memory) *journal.Journal {
	t.Helper()
	j, e := journal.Open(m)
	if j == nil || e != api.OK {
		t.Fatalf("Open = %v, %d", j, e)
	}
	return j
}

// filled returns a memory and its journal, which has these records.
func filled(t *testing.T, words int, records [][]uint32) (*memory.Memory, *journal.Journal) {
	t.Helper()
	m := newMemory(t, words)
	j := format(t, m)
	checkReplace(t, j, records, api.OK)
	return m, j
}

// checkFails checks the results of Format or Open that report an error.
func checkFails(t *testing.T, what string, j *journal.Journal, e, want api.Errno) {
	t.Helper()
	if j != nil || e != want {
		t.Errorf("%s = %v, %d, want the error %d", what, j, e, want)
	}
}

func checkAppend(t *testing.T, j *journal.Journal, record []uint32, want api.Errno) {
	t.Helper()
	if e := j.Append(record); e != want {
		t.Errorf("Append of %d words = %d, want %d", len(record), e, want)
	}
}

func checkReplace(t *testing.T, j *journal.Journal, records [][]uint32, want api.Errno) {
	t.Helper()
	if e := j.Replace(records); e != want {
		t.Errorf("Replace of %d records = %d, want %d", len(records), e, want)
	}
}

// checkHas checks the records of a journal, and what Free returns then.
func checkHas(t *testing.T, j *journal.Journal, words int, want [][]uint32) {
	t.Helper()
	if got := j.Records(); !alike(got, want) {
		t.Errorf("Records = %v, want %v", got, want)
	}
	if got, want := j.Free(), freeAfter(words, want); got != want {
		t.Errorf("Free = %d, want %d", got, want)
	}
}

// checkStored checks the records of a journal and those that Open returns for its memory.
func checkStored(t *testing.T, m *memory.Memory, j *journal.Journal, want [][]uint32) {
	t.Helper()
	checkHas(t, j, m.Len(), want)
	checkHas(t, reopen(t, m), m.Len(), want)
}

// checkOpensOrFlip checks that Open returns a journal with these records, or ErrFlip.
func checkOpensOrFlip(t *testing.T, m *memory.Memory, want [][]uint32) {
	t.Helper()
	j, e := journal.Open(m)
	if e == api.ErrFlip && j == nil {
		return
	}
	if j == nil || e != api.OK || !alike(j.Records(), want) {
		t.Fatalf("Open = %v, %d, want %v or the error %d", j, e, want, api.ErrFlip)
	}
}

// alike reports whether two lists have the same records.
func alike(a, b [][]uint32) bool { return slices.EqualFunc(a, b, slices.Equal) }

// capacityOf returns the capacity of the journal of a memory.
func capacityOf(words int) int { return words/2 - 4 }

// sizeOf returns how much of the capacity records take.
func sizeOf(records [][]uint32) int {
	size := len(records)
	for _, r := range records {
		size += len(r)
	}
	return size
}

// freeAfter returns the length of the longest record for which there is room after records.
func freeAfter(words int, records [][]uint32) int {
	return min(64, capacityOf(words)-sizeOf(records)-1)
}

// fullOf returns records of many lengths that take exactly this size.
func fullOf(size int) [][]uint32 {
	var records [][]uint32
	for n := 0; size > 0; n = (n*5 + 1) % 65 {
		r := mixed(min(n, size-1), n)
		records = append(records, r)
		size -= len(r) + 1
	}
	return records
}

// mixed returns a record, a different one for each seed. No word of it is 0.
func mixed(n, seed int) []uint32 {
	record := make([]uint32, n)
	for i := range record {
		record[i] = uint32(seed*65+i+1) * 0x9e3779b1
	}
	return record
}

// copyOf returns the same records in new memory.
func copyOf(records [][]uint32) [][]uint32 {
	var same [][]uint32
	for _, r := range records {
		same = append(same, slices.Clone(r))
	}
	return same
}

// with returns a copy of records and one more.
func with(records [][]uint32, record []uint32) [][]uint32 {
	return append(copyOf(records), slices.Clone(record))
}

// flip inverts bits of each word of a memory.
func flip(m *memory.Memory, bits ...int) {
	for a := range m.Len() {
		for _, bit := range bits {
			m.Flip(a, (a+bit)%codeBits)
		}
	}
}

// contents returns what a read of each word of a memory returns, and what the scrubber finds in a clone.
func contents(m *memory.Memory) ([]uint32, []api.Errno, memory.Scrub) {
	var words []uint32
	var errors []api.Errno
	for a := range m.Len() {
		w, e := m.Read(a)
		words, errors = append(words, w), append(errors, e)
	}
	c := m.Clone()
	c.Reset()
	return words, errors, c.Scrub(c.Len())
}

// checkUntouched makes a call and checks that it writes no word.
func checkUntouched(t *testing.T, m *memory.Memory, call func()) {
	t.Helper()
	writes, on := m.Writes(), m.On()
	words, errors, scrub := contents(m)
	call()
	nowWords, nowErrors, nowScrub := contents(m)
	if m.Writes() != writes || m.On() != on || nowScrub != scrub || !slices.Equal(nowWords, words) || !slices.Equal(nowErrors, errors) {
		t.Errorf("the memory was changed: %d writes, %v, want %d writes, %v", m.Writes(), nowScrub, writes, scrub)
	}
}

func newRandom(seed int) *rand.Rand { return rand.New(rand.NewSource(int64(seed))) }

// randomRecord returns a record, now and then of the least or of the greatest length, with words among which 0 and the greatest one are frequent.
func randomRecord(random *rand.Rand, longest int) []uint32 {
	n := random.Intn(longest + 1)
	switch random.Intn(8) {
	case 0:
		n = 0
	case 1:
		n = longest
	}
	record := make([]uint32, n)
	for i := range record {
		switch random.Intn(4) {
		case 0:
		case 1:
			record[i] = 0xffffffff
		case 2:
			record[i] = uint32(random.Intn(70))
		default:
			record[i] = random.Uint32()
		}
	}
	return record
}
