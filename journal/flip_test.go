package journal_test

import (
	"testing"

	"perigee/api"
	"perigee/journal"
	"perigee/memory"
)

// flipSubject is a memory with a journal, and the records that it has.
type flipSubject struct {
	memory  *memory.Memory
	journal *journal.Journal
	records [][]uint32
}

// flipSubjects returns journals after some changes, so that what is stored now and what was stored before lies in different words.
func flipSubjects(t *testing.T, words int) []flipSubject {
	t.Helper()
	capacity := capacityOf(words)
	var list []flipSubject
	add := func(m *memory.Memory, j *journal.Journal, records [][]uint32) {
		list = append(list, flipSubject{m, j, records})
	}
	m := newMemory(t, words)
	add(m, format(t, m), nil)
	m, j := filled(t, words, [][]uint32{{0xffffffff, 0}})
	add(m, j, [][]uint32{{0xffffffff, 0}})
	m, j = filled(t, words, fullOf(capacity))
	checkReplace(t, j, [][]uint32{{1}, {}}, api.OK)
	add(m, j, [][]uint32{{1}, {}})
	m, j = filled(t, words, [][]uint32{{7}})
	checkAppend(t, j, nil, api.OK)
	add(m, j, [][]uint32{{7}, {}})
	m, j = filled(t, words, fullOf(capacity-2))
	checkAppend(t, j, []uint32{5}, api.OK)
	add(m, j, with(fullOf(capacity-2), []uint32{5}))
	m, _ = filled(t, words, fullOf(capacity))
	add(m, format(t, m), nil)
	m, j = filled(t, words, [][]uint32{{1, 2}})
	m.Fuse(2)
	checkReplace(t, j, [][]uint32{{3}, {4}}, api.ErrPower)
	m.Reset()
	add(m, j, [][]uint32{{1, 2}})
	return list
}

// TestSingleFlips checks P7.7 for one flip in each word of the memory at once, and for one flip in one word.
func TestSingleFlips(t *testing.T) {
	for _, words := range []int{16, 17, 40, 200} {
		for _, s := range flipSubjects(t, words) {
			for bit := range codeBits {
				m := s.memory.Clone()
				flip(m, bit)
				checkHas(t, reopen(t, m), words, s.records)
				for a := range words {
					flip(m, bit) // back
					m.Flip(a, bit)
					checkHas(t, reopen(t, m), words, s.records)
					m.Flip(a, bit)
					flip(m, bit)
				}
			}
		}
	}
}

// TestChangesAfterSingleFlips checks P7.7: after flips a journal has the usual results, and words that it writes may be hit again.
func TestChangesAfterSingleFlips(t *testing.T) {
	for _, words := range []int{24, 60} {
		for _, c := range changes(words) {
			want := [][]uint32{{1}, {2}}
			m, j := filled(t, words, want)
			for round := range 4 {
				flip(m, round*11)
				checkStored(t, m, j, want)
				if round > 1 {
					j = reopen(t, m)
				}
				checkReplace(t, j, [][]uint32{{1}, {2}}, api.OK)
				m.Scrub(words)
				flip(m, round*7)
				if e := c.apply(j); e != api.OK {
					t.Fatalf("a change after flips returned %d", e)
				}
				want = c.after([][]uint32{{1}, {2}})
				checkStored(t, m, j, want)
				m.Scrub(words)
			}
		}
	}
}

// TestScrubber checks P7.7: flips between which the scrubber visits the words, or the journal writes them, do not add up.
func TestScrubber(t *testing.T) {
	for _, s := range flipSubjects(t, 40) {
		for round := range 100 {
			flip(s.memory, round*round)
			checkStored(t, s.memory, s.journal, s.records)
			s.memory.Scrub(40)
		}
	}
}

// TestTwoFlips checks P7.8 for all pairs of bits of each word: Open returns the records or ErrFlip, and the journal itself still has them.
func TestTwoFlips(t *testing.T) {
	for _, s := range flipSubjects(t, 24) {
		for a := range s.memory.Len() {
			for first := range codeBits {
				for second := range first {
					s.memory.Flip(a, first)
					s.memory.Flip(a, second)
					checkOpensOrFlip(t, s.memory, s.records)
					checkHas(t, s.journal, s.memory.Len(), s.records)
					s.memory.Flip(a, first)
					s.memory.Flip(a, second)
				}
			}
		}
	}
}

// TestTwoFlipsInLargeMemory checks P7.8 for each word of the largest memory.
func TestTwoFlipsInLargeMemory(t *testing.T) {
	records := fullOf(2044)
	m, j := filled(t, 4096, records)
	for a := range 4096 {
		m.Flip(a, a%codeBits)
		m.Flip(a, (a+1+a%37)%codeBits)
		checkOpensOrFlip(t, m, records)
		m.Flip(a, a%codeBits)
		m.Flip(a, (a+1+a%37)%codeBits)
	}
	checkStored(t, m, j, records)
}

// TestTwoFlipsAndSingleOnes checks P7.8: if other words have a flip, too, or two of them, there are no other records either.
func TestTwoFlipsAndSingleOnes(t *testing.T) {
	for _, s := range flipSubjects(t, 24) {
		for bit := range codeBits {
			for first := range 24 {
				for second := range 24 {
					m := s.memory.Clone()
					flip(m, bit)
					m.Flip(first, (first+bit+1)%codeBits)
					m.Flip(second, (second+bit+2)%codeBits)
					if first != second { // otherwise three flips of one word
						checkOpensOrFlip(t, m, s.records)
					}
				}
			}
		}
	}
}

// TestChangesAfterTwoFlips checks P7.5 and P7.6 for a memory no word of which can be read: the journal knows its records and can be changed; what Open returns are the records or ErrFlip.
func TestChangesAfterTwoFlips(t *testing.T) {
	const words = 40
	for _, c := range changes(words) {
		for n := range 20 {
			before := [][]uint32{{1}, {2}}
			m, j := filled(t, words, before)
			flip(m, 3, 20)
			checkHas(t, j, words, before)
			m.Fuse(n)
			want := before
			if c.apply(j) == api.OK {
				want = c.after(before)
			}
			checkHas(t, j, words, want)
			checkOpensOrFlip(t, m, want)
			m.Reset()
			checkReplace(t, j, [][]uint32{{3}}, api.OK)
			checkHas(t, j, words, [][]uint32{{3}})
			checkOpensOrFlip(t, m, [][]uint32{{3}})
		}
	}
}

// TestThreeFlips checks R1 for all sets of three bits of each word, which may look like a single flip of another word: Open reports one of its errors, or returns a journal that can be used.
func TestThreeFlips(t *testing.T) {
	m, _ := filled(t, 16, [][]uint32{{1, 2}, {}})
	for a := range m.Len() {
		for first := range codeBits {
			m.Flip(a, first)
			for second := range first {
				m.Flip(a, second)
				for third := range second {
					m.Flip(a, third)
					checkOpenReturns(t, m)
					m.Flip(a, third)
				}
				m.Flip(a, second)
			}
			m.Flip(a, first)
		}
	}
}

// TestManyFlips checks R1: however many flips there are, no call fails to return, and the journal that is open keeps its records.
func TestManyFlips(t *testing.T) {
	random := newRandom(1)
	for range 200 {
		for _, s := range flipSubjects(t, 16+random.Intn(10)) {
			for range 1 + random.Intn(40) {
				s.memory.Flip(random.Intn(s.memory.Len()), random.Intn(codeBits))
				checkOpenReturns(t, s.memory)
			}
			checkHas(t, s.journal, s.memory.Len(), s.records)
			checkReplace(t, s.journal, [][]uint32{{1}}, api.OK)
			checkHas(t, s.journal, s.memory.Len(), [][]uint32{{1}})
		}
	}
}

// checkOpenReturns checks that Open of a memory that has a journal reports an error that it may report, or returns a journal whose Records and Free agree.
func checkOpenReturns(t *testing.T, m *memory.Memory) {
	t.Helper()
	j, e := journal.Open(m)
	if e == api.OK {
		checkHas(t, j, m.Len(), j.Records())
	} else if j != nil || e != api.ErrFlip && e != api.ErrForm {
		t.Errorf("Open = %v, %d", j, e)
	}
}
