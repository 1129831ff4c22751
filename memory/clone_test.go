package memory

import (
	"math"
	"slices"
	"testing"

	"perigee/api"
)

// TestClone checks P6.9: a clone has the same words, scrub position, count of writes, power and fuse.
func TestClone(t *testing.T) {
	for _, words := range []int{5, 4096} {
		m := used(t, words)
		for _, c := range []*Memory{m.Clone(), m.Clone().Clone()} {
			checkStored(t, c, m.codes)
			checkCounts(t, c, words, words+1, true)
			for a := range 5 {
				wantWord, wantError := m.Read(a)
				if w, e := c.Read(a); w != wantWord || e != wantError {
					t.Errorf("Read(%d) = %#x, %d, want %#x, %d", a, w, e, wantWord, wantError)
				}
			}
			checkNext(t, c, 2)
			checkScrub(t, c.Clone(), words, Scrub{Visited: words, Corrected: 1, Bad: 1})
			checkFuse(t, c, 2)
		}
	}
}

// TestCloneWithoutPower checks P6.9 for a memory whose power is off, and for one without a fuse.
func TestCloneWithoutPower(t *testing.T) {
	m := open(t, 2)
	checkNoFuse(t, m.Clone())
	m.Fuse(0)
	c := m.Clone()
	checkFuse(t, c, 0)
	c.Reset()
	checkNoFuse(t, c)
	checkCounts(t, m, 2, 0, false)
}

// TestChangedClone checks P6.9: whatever is done to a clone, the original does not change.
func TestChangedClone(t *testing.T) {
	for _, change := range changes() {
		m := used(t, 5)
		stored := slices.Clone(m.codes)
		change(m.Clone())
		checkUsed(t, m, stored)
	}
}

// TestChangedOriginal checks P6.9: whatever is done to the original, a clone does not change.
func TestChangedOriginal(t *testing.T) {
	for _, change := range changes() {
		m := used(t, 5)
		stored := slices.Clone(m.codes)
		c := m.Clone()
		change(m)
		checkUsed(t, c, stored)
	}
}

// TestChangedCloneOfClone checks P6.9 for two clones of one memory, and for a clone of a clone.
func TestChangedCloneOfClone(t *testing.T) {
	for _, change := range changes() {
		m := used(t, 5)
		stored := slices.Clone(m.codes)
		first, second := m.Clone(), m.Clone()
		third := first.Clone()
		change(first)
		checkUsed(t, m, stored)
		checkUsed(t, second, stored)
		checkUsed(t, third, stored)
	}
}

// TestMemoriesAreIndependent checks that a memory keeps nothing outside of itself (R5).
func TestMemoriesAreIndependent(t *testing.T) {
	for _, change := range changes() {
		m, fresh := used(t, 5), open(t, 5)
		change(m)
		checkStored(t, fresh, make([]uint64, 5))
		checkCounts(t, fresh, 5, 0, true)
		checkNext(t, fresh, 0)
		checkNoFuse(t, fresh)
	}
}

// changes returns all kinds of changes of a memory that used returned.
func changes() []func(m *Memory) {
	return []func(m *Memory){
		func(m *Memory) { m.Write(0, math.MaxUint32) },
		func(m *Memory) {
			for a := range 5 {
				m.Write(a, uint32(a))
			}
		},
		func(m *Memory) { m.Flip(0, 0) },
		func(m *Memory) { m.Flip(4, 38) },
		func(m *Memory) { m.Scrub(1) },
		func(m *Memory) { m.Scrub(5) },
		func(m *Memory) { m.Fuse(1) },
		func(m *Memory) { m.Fuse(0) },
		func(m *Memory) { m.Fuse(-1) },
		func(m *Memory) { m.Reset() },
	}
}

// used returns a memory with a correctable and an uncorrectable word, the scrub position 2, words + 1 writes, and a fuse that leaves two writes and has burnt already.
func used(t *testing.T, words int) *Memory {
	t.Helper()
	m := open(t, words)
	for a := range words {
		checkWrite(t, m, a, mixed(a), api.OK)
	}
	checkScrub(t, m, 2, Scrub{Visited: 2})
	flip(t, m, 1, 17)
	flip(t, m, 3, 17, 38)
	m.Fuse(3)
	checkWrite(t, m, 0, 12, api.OK)
	return m
}

// checkUsed checks that a memory of 5 words is as used returned it.
func checkUsed(t *testing.T, m *Memory, stored []uint64) {
	t.Helper()
	checkStored(t, m, stored)
	checkCounts(t, m, 5, 6, true)
	checkNext(t, m, 2)
	checkFuse(t, m, 2)
}
