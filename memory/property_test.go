package memory

import (
	"testing"

	"perigee/api"
)

// TestSingleFlips checks P6.10 for each bit of words that were written or not, with and without power.
func TestSingleFlips(t *testing.T) {
	for bit := range 39 {
		m := open(t, 8)
		for a := range 7 {
			checkWrite(t, m, a, mixed(a), api.OK)
		}
		for a := range 8 {
			flip(t, m, a, bit)
		}
		for range 2 {
			for a := range 7 {
				checkRead(t, m, a, mixed(a))
			}
			checkRead(t, m, 7, 0)
			m.Fuse(0)
		}
	}
}

// TestWriteEndsFlips checks P6.10: only flips since the last write count.
func TestWriteEndsFlips(t *testing.T) {
	m := open(t, 2)
	for first := range 39 {
		for second := range 39 {
			checkWrite(t, m, 1, uint32(first), api.OK)
			flip(t, m, 1, first)
			checkRead(t, m, 1, uint32(first))
			checkWrite(t, m, 1, uint32(second), api.OK)
			flip(t, m, 1, second)
			checkRead(t, m, 1, uint32(second))
		}
	}
	checkRead(t, m, 0, 0)
}

// TestScrubber checks P6.11: a word is visited or written between any two flips of it, for a long time.
func TestScrubber(t *testing.T) {
	const words = 6
	m := open(t, words)
	random := newRandom(1)
	var want [words]uint32
	var flipped [words]bool
	for range 20000 {
		switch a := random.Intn(words); random.Intn(4) {
		case 0:
			want[a] = random.Uint32()
			checkWrite(t, m, a, want[a], api.OK)
			flipped[a] = false
		case 1:
			start, n := m.next, random.Intn(words+2)
			m.Scrub(n)
			for k := range min(n, words) {
				flipped[(start+k)%words] = false
			}
		default:
			if !flipped[a] {
				flip(t, m, a, random.Intn(39))
				flipped[a] = true
			}
		}
		for a, w := range want {
			checkRead(t, m, a, w)
		}
	}
}

// TestScrubberNeedsPower checks P6.11: a visit counts only with the power on.
func TestScrubberNeedsPower(t *testing.T) {
	m := open(t, 1)
	checkWrite(t, m, 0, 5, api.OK)
	flip(t, m, 0, 1)
	m.Fuse(0)
	m.Scrub(1)
	flip(t, m, 0, 2)
	checkBad(t, m, 0)
	m.Reset()
	checkWrite(t, m, 0, 5, api.OK)
	flip(t, m, 0, 1)
	m.Scrub(1)
	flip(t, m, 0, 2)
	checkRead(t, m, 0, 5)
}

// TestDoubleFlips checks P6.12 for each pair of bits: neither the scrubber nor a reset changes anything, only a write does.
func TestDoubleFlips(t *testing.T) {
	for first := range 39 {
		for second := range 39 {
			if first == second {
				continue
			}
			m := open(t, 2)
			checkWrite(t, m, 1, 12345, api.OK)
			flip(t, m, 1, first, second)
			checkBad(t, m, 1)
			m.Scrub(2)
			m.Fuse(0)
			checkBad(t, m, 1)
			checkWrite(t, m, 1, 7, api.ErrPower)
			checkBad(t, m, 1)
			m.Reset()
			m.Scrub(1)
			checkWrite(t, m, 0, 7, api.OK)
			checkBad(t, m, 1)
			checkWrite(t, m, 1, 7, api.OK)
			checkRead(t, m, 1, 7)
		}
	}
}

// TestPowerLoss checks P6.13: of any further writes of existing words exactly the first n take effect, whatever else is called.
func TestPowerLoss(t *testing.T) {
	for n := range 20 {
		m := open(t, 3)
		checkWrite(t, m, 2, 1000, api.OK)
		m.Fuse(n)
		want := []uint32{0, 0, 1000}
		for i := range 30 {
			e := api.ErrPower
			if i < n {
				e = api.OK
				want[i%3] = uint32(i)
			}
			checkWrite(t, m, i%3, uint32(i), e)
			checkWrite(t, m, 3, 1, api.ErrRange)
			flip(t, m, i%3, i)
			m.Scrub(3)
			flip(t, m, i%3, i) // back, if the power is off; otherwise it was corrected and is inverted once more
			for a, w := range want {
				checkRead(t, m, a, w)
			}
			m.Scrub(3)
		}
		checkCounts(t, m, 3, 1+min(n, 30), false)
		m.Reset()
		for i := range 30 {
			checkWrite(t, m, i%3, uint32(i+50), api.OK)
			checkRead(t, m, i%3, uint32(i+50))
		}
	}
}

// TestExamples checks the examples of the chapter.
func TestExamples(t *testing.T) {
	m := open(t, 2)
	checkWrite(t, m, 1, 7, api.OK)
	flip(t, m, 1, 5)
	checkRead(t, m, 1, 7)
	checkScrub(t, m, 1, Scrub{Visited: 1})
	checkScrub(t, m, 1, Scrub{Visited: 1, Corrected: 1})

	m = open(t, 2)
	checkWrite(t, m, 1, 7, api.OK)
	flip(t, m, 1, 5, 6)
	checkBad(t, m, 1)
	checkScrub(t, m, 2, Scrub{Visited: 2, Bad: 1})

	m = open(t, 2)
	m.Fuse(1)
	checkWrite(t, m, 0, 1, api.OK)
	checkWrite(t, m, 0, 2, api.ErrPower)
	checkRead(t, m, 0, 1)
	m.Reset()
	checkWrite(t, m, 0, 2, api.OK)
	checkRead(t, m, 0, 2)
}
