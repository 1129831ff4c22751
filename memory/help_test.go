package memory

import (
	"math"
	"math/rand"
	"testing"

	"perigee/api"
)

// open returns a new memory.
func open(t *testing.T, words int) *Memory {
	t.Helper()
	m, e := New(words)
	if m == nil || e != api.OK {
		t.Fatalf("New(%d) = %v, %d", words, m, e)
	}
	return m
}

// flip inverts bits of a word that exist.
func flip(t *testing.T, m *Memory, a int, bits ...int) {
	t.Helper()
	for _, bit := range bits {
		if e := m.Flip(a, bit); e != api.OK {
			t.Errorf("Flip(%d, %d) = %d", a, bit, e)
		}
	}
}

// checkNoFlip checks that there is no such bit.
func checkNoFlip(t *testing.T, m *Memory, a, bit int) {
	t.Helper()
	if e := m.Flip(a, bit); e != api.ErrRange {
		t.Errorf("Flip(%d, %d) = %d", a, bit, e)
	}
}

func checkRead(t *testing.T, m *Memory, a int, want uint32) {
	t.Helper()
	if w, e := m.Read(a); w != want || e != api.OK {
		t.Errorf("Read(%d) = %#x, %d, want %#x", a, w, e, want)
	}
}

// checkBad checks that a word cannot be read.
func checkBad(t *testing.T, m *Memory, a int) {
	t.Helper()
	if w, e := m.Read(a); w != 0 || e != api.ErrFlip {
		t.Errorf("Read(%d) = %#x, %d, want the error %d", a, w, e, api.ErrFlip)
	}
}

func checkWrite(t *testing.T, m *Memory, a int, w uint32, want api.Errno) {
	t.Helper()
	if e := m.Write(a, w); e != want {
		t.Errorf("Write(%d, %#x) = %d, want %d", a, w, e, want)
	}
}

func checkScrub(t *testing.T, m *Memory, n int, want Scrub) {
	t.Helper()
	if s := m.Scrub(n); s != want {
		t.Errorf("Scrub(%d) = %+v, want %+v", n, s, want)
	}
}

func checkCounts(t *testing.T, m *Memory, words, writes int, on bool) {
	t.Helper()
	if m.Len() != words || m.Writes() != writes || m.On() != on {
		t.Errorf("Len, Writes and On are %d, %d, %t, want %d, %d, %t", m.Len(), m.Writes(), m.On(), words, writes, on)
	}
}

// checkStored checks the code words of all words.
func checkStored(t *testing.T, m *Memory, want []uint64) {
	t.Helper()
	if len(m.codes) != len(want) {
		t.Fatalf("%d words, want %d", len(m.codes), len(want))
	}
	for a, c := range m.codes {
		if c != want[a] {
			t.Errorf("the code word of word %d is %#x, want %#x", a, c, want[a])
		}
	}
}

// checkNext checks the scrub position.
func checkNext(t *testing.T, m *Memory, want int) {
	t.Helper()
	if m.next != want {
		t.Errorf("the scrub position is %d, want %d", m.next, want)
	}
}

// checkFuse checks that exactly n further writes take effect. It makes them: the power is off then.
func checkFuse(t *testing.T, m *Memory, n int) {
	t.Helper()
	for range n {
		if !m.On() {
			t.Errorf("the power is off")
		}
		checkWrite(t, m, 0, 1, api.OK)
	}
	if m.On() {
		t.Errorf("the power is on after %d writes", n)
	}
	checkWrite(t, m, 0, 2, api.ErrPower)
}

// checkNoFuse checks that many writes take effect, and makes them.
func checkNoFuse(t *testing.T, m *Memory) {
	t.Helper()
	for range 100 {
		checkWrite(t, m, 0, 1, api.OK)
	}
	if !m.On() {
		t.Errorf("the power is off")
	}
}

// missing returns numbers that are not from 0 to n - 1, some of which are only when they are cut to fewer bits.
func missing(n int) []int {
	return []int{-1, -2, -n, n, n + 1, 2 * n, 1 << 32, 1<<32 + 1, -1 << 32, math.MaxInt, math.MinInt, math.MinInt + 1}
}

// mixed returns a word for each number, a different one for different numbers.
func mixed(a int) uint32 { return uint32(a+1) * 0x9e3779b1 }

func newRandom(seed int64) *rand.Rand { return rand.New(rand.NewSource(seed)) }
