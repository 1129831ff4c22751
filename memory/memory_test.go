package memory

import (
	"math"
	"slices"
	"testing"

	"perigee/api"
	"perigee/ecc"
)

// TestNew checks P6.1 for the least and the greatest number of words and some in between.
func TestNew(t *testing.T) {
	for _, words := range []int{1, 2, 39, 4095, 4096} {
		m := open(t, words)
		checkCounts(t, m, words, 0, true)
		for a := range words {
			checkRead(t, m, a, 0)
		}
		checkStored(t, m, slices.Repeat([]uint64{ecc.Encode(0)}, words))
		checkScrub(t, m, words, Scrub{Visited: words})
		checkNext(t, m, 0)
		checkNoFuse(t, m)
	}
}

// TestNewOutOfRange checks P6.1 for numbers of words that no memory has.
func TestNewOutOfRange(t *testing.T) {
	for _, words := range []int{0, -1, -2, -4096, 4097, 4098, 8192, 1 << 32, 1<<32 + 1, math.MaxInt, math.MinInt} {
		if m, e := New(words); m != nil || e != api.ErrRange {
			t.Errorf("New(%d) = %v, %d", words, m, e)
		}
	}
}

// TestCounts checks P6.2: of all calls only a successful Write counts, and the number of words never changes.
func TestCounts(t *testing.T) {
	m := open(t, 3)
	for i := range 10 {
		checkWrite(t, m, i%3, uint32(i), api.OK)
		checkCounts(t, m, 3, i+1, true)
	}
	m.Write(3, 1)
	m.Read(0)
	m.Flip(0, 1)
	m.Scrub(3)
	m.Fuse(2)
	checkCounts(t, m, 3, 10, true)
	checkWrite(t, m, 0, 1, api.OK)
	checkCounts(t, m, 3, 11, true)
	checkWrite(t, m, 0, 1, api.OK)
	checkCounts(t, m, 3, 12, false)
	checkWrite(t, m, 0, 1, api.ErrPower)
	checkCounts(t, m, 3, 12, false)
	m.Reset()
	checkCounts(t, m, 3, 12, true)
	m.Fuse(0)
	checkCounts(t, m, 3, 12, false)
}

// TestRead checks P6.3: each word of the smallest, a small and the largest memory is one of its own.
func TestRead(t *testing.T) {
	for _, words := range []int{1, 5, 4096} {
		m := open(t, words)
		for a := range words {
			checkWrite(t, m, a, mixed(a), api.OK)
		}
		for a := range words {
			checkRead(t, m, a, mixed(a))
		}
	}
}

// TestReadOutOfRange checks P6.3 for words there are not, with and without power, also if all words there are cannot be corrected.
func TestReadOutOfRange(t *testing.T) {
	m := open(t, 3)
	for a := range 3 {
		flip(t, m, a, 4, 5)
	}
	for range 2 {
		for _, a := range missing(3) {
			if w, e := m.Read(a); w != 0 || e != api.ErrRange {
				t.Errorf("Read(%d) = %#x, %d", a, w, e)
			}
		}
		m.Fuse(0)
	}
}

// TestReadDoesNotCorrect checks P6.3: a code word remains as it is, whether it is clean, corrected or uncorrectable.
func TestReadDoesNotCorrect(t *testing.T) {
	for _, w := range []uint32{0, 1, 0xdeadbeef, math.MaxUint32} {
		m := open(t, 3)
		for a := range 3 {
			checkWrite(t, m, a, w, api.OK)
		}
		flip(t, m, 1, 7)
		flip(t, m, 2, 7, 8)
		stored := slices.Clone(m.codes)
		for range 2 {
			checkRead(t, m, 0, w)
			checkRead(t, m, 1, w)
			checkBad(t, m, 2)
			checkStored(t, m, stored)
		}
		checkScrub(t, m, 3, Scrub{Visited: 3, Corrected: 1, Bad: 1})
	}
}

// TestReadFollowsDecode checks P6.3 for code words in which zero to five bits were inverted: with three or more, Decode may return another word than the one that was written.
func TestReadFollowsDecode(t *testing.T) {
	m := open(t, 1)
	random := newRandom(6)
	for range 20000 {
		w := random.Uint32()
		checkWrite(t, m, 0, w, api.OK)
		c := ecc.Encode(w)
		for range random.Intn(6) {
			bit := random.Intn(39)
			c = ecc.Flip(c, bit)
			flip(t, m, 0, bit)
		}
		if want, status := ecc.Decode(c); status == 2 {
			checkBad(t, m, 0)
		} else {
			checkRead(t, m, 0, want)
		}
	}
}

// TestReadWithoutPower checks P6.3: Read does not need power.
func TestReadWithoutPower(t *testing.T) {
	m := open(t, 3)
	for a := range 3 {
		checkWrite(t, m, a, uint32(a+9), api.OK)
	}
	flip(t, m, 1, 38)
	flip(t, m, 2, 0, 38)
	m.Fuse(0)
	checkRead(t, m, 0, 9)
	checkRead(t, m, 1, 10)
	checkBad(t, m, 2)
}

// TestWrite checks P6.4: a word is replaced, whatever was stored before, and the others are not.
func TestWrite(t *testing.T) {
	m := open(t, 4)
	for a := range 4 {
		checkWrite(t, m, a, mixed(a), api.OK)
	}
	flip(t, m, 1, 20)
	flip(t, m, 2, 20, 21)
	flip(t, m, 3, 20, 21, 22)
	for a := range 4 {
		for _, w := range []uint32{0, 1, 0x80000000, 12345, math.MaxUint32} {
			stored := slices.Clone(m.codes)
			stored[a] = ecc.Encode(w)
			checkWrite(t, m, a, w, api.OK)
			checkRead(t, m, a, w)
			checkStored(t, m, stored)
		}
	}
	checkScrub(t, m, 4, Scrub{Visited: 4})
}

// TestWriteOutOfRange checks P6.4 for words there are not: nothing changes, and ErrRange precedes ErrPower.
func TestWriteOutOfRange(t *testing.T) {
	m := open(t, 3)
	m.Fuse(1)
	stored := slices.Clone(m.codes)
	for _, a := range missing(3) {
		checkWrite(t, m, a, 5, api.ErrRange)
	}
	checkStored(t, m, stored)
	checkCounts(t, m, 3, 0, true)
	m.Fuse(0)
	for _, a := range missing(3) {
		checkWrite(t, m, a, 5, api.ErrRange)
	}
	checkStored(t, m, stored)
	checkCounts(t, m, 3, 0, false)
}

// TestWriteWithoutPower checks P6.4: nothing changes, not even a word that cannot be corrected.
func TestWriteWithoutPower(t *testing.T) {
	m := open(t, 3)
	checkWrite(t, m, 0, 5, api.OK)
	flip(t, m, 1, 20, 21)
	flip(t, m, 2, 7)
	m.Fuse(0)
	stored := slices.Clone(m.codes)
	for a := range 3 {
		checkWrite(t, m, a, 6, api.ErrPower)
	}
	checkStored(t, m, stored)
	checkCounts(t, m, 3, 1, false)
}

// TestFuseBurns checks P6.4: the write that takes a fuse to 0 takes effect and is the last one, and the fuse is gone then.
func TestFuseBurns(t *testing.T) {
	for _, fuse := range []int{1, 2, 3, 7, 40} {
		m := open(t, 4)
		m.Fuse(fuse)
		for i := range fuse {
			checkCounts(t, m, 4, i, true)
			checkWrite(t, m, i%4, uint32(i+100), api.OK)
			checkRead(t, m, i%4, uint32(i+100))
		}
		checkCounts(t, m, 4, fuse, false)
		checkWrite(t, m, 0, 1, api.ErrPower)
		m.Reset()
		checkNoFuse(t, m)
	}
}

// TestFuseOnlyBurnsByWrites checks P6.4, P6.7 and P6.8: neither a rejected write nor any other call shortens a fuse.
func TestFuseOnlyBurnsByWrites(t *testing.T) {
	m := open(t, 4)
	m.Fuse(2)
	for a := range 4 {
		m.Write(a+4, 1)
		m.Write(-1-a, 1)
		flip(t, m, a, a)
	}
	checkScrub(t, m, 4, Scrub{Visited: 4, Corrected: 4})
	m.Read(0)
	checkFuse(t, m, 2)
}

// TestFuse checks P6.5: the last one of several calls counts.
func TestFuse(t *testing.T) {
	const none = -1
	for _, c := range []struct {
		calls []int
		want  int
	}{
		{[]int{1}, 1},
		{[]int{5}, 5},
		{[]int{0}, 0},
		{[]int{-1}, none},
		{[]int{math.MinInt}, none},
		{[]int{math.MaxInt}, none}, // so long that no test sees its end
		{[]int{5, 2}, 2},
		{[]int{2, 5}, 5},
		{[]int{3, 3}, 3},
		{[]int{5, 0}, 0},
		{[]int{5, -1}, none},
		{[]int{1, -7}, none},
		{[]int{-1, 4}, 4},
		{[]int{1, -1, 1}, 1},
		{[]int{0, 5}, 0},
		{[]int{0, -1}, 0},
		{[]int{0, 0}, 0},
	} {
		m := open(t, 2)
		for _, writes := range c.calls {
			m.Fuse(writes)
		}
		if c.want == none {
			checkNoFuse(t, m)
		} else {
			checkFuse(t, m, c.want)
		}
	}
}

// TestFuseIsReplacedWhileItBurns checks P6.5 for a fuse of which a part has burnt.
func TestFuseIsReplacedWhileItBurns(t *testing.T) {
	for _, next := range []int{0, 1, 2, 3, 4} {
		m := open(t, 2)
		m.Fuse(3)
		checkWrite(t, m, 0, 1, api.OK)
		checkWrite(t, m, 0, 2, api.OK)
		m.Fuse(next)
		checkFuse(t, m, next)
	}
	m := open(t, 2)
	m.Fuse(2)
	checkWrite(t, m, 0, 1, api.OK)
	m.Fuse(-1)
	checkNoFuse(t, m)
}

// TestFuseWithoutPower checks P6.5: no argument has an effect, neither then nor after Reset.
func TestFuseWithoutPower(t *testing.T) {
	for _, writes := range []int{math.MinInt, -1, 0, 1, 2, math.MaxInt} {
		for _, first := range []int{0, 1} {
			m := open(t, 2)
			m.Fuse(first)
			checkFuse(t, m, first)
			m.Fuse(writes)
			checkFuse(t, m, 0)
			m.Reset()
			checkNoFuse(t, m)
		}
	}
}

// TestReset checks P6.6: the power is on and there is no fuse, whatever was before, and nothing else changes.
func TestReset(t *testing.T) {
	for _, fuse := range []int{-1, 0, 1, 2} {
		m := open(t, 5)
		checkWrite(t, m, 1, 11, api.OK)
		flip(t, m, 2, 30)
		flip(t, m, 3, 30, 31)
		checkScrub(t, m, 2, Scrub{Visited: 2})
		m.Fuse(fuse)
		stored := slices.Clone(m.codes)
		m.Reset()
		checkStored(t, m, stored)
		checkCounts(t, m, 5, 1, true)
		checkScrub(t, m.Clone(), 5, Scrub{Visited: 5, Corrected: 1, Bad: 1})
		checkNext(t, m, 2)
		checkNoFuse(t, m)
	}
}

// TestResetRemovesFuse checks P6.6 for a fuse of which a part has burnt, and for one that has burnt down.
func TestResetRemovesFuse(t *testing.T) {
	for burnt := range 4 {
		m := open(t, 2)
		m.Fuse(3)
		for range burnt {
			checkWrite(t, m, 0, 8, api.OK)
		}
		m.Reset()
		checkNoFuse(t, m)
		m.Reset()
		checkNoFuse(t, m)
		m.Fuse(2)
		checkFuse(t, m, 2)
	}
}

// TestFlip checks P6.7 for each bit: it alone is inverted, in one word alone, and a second time back.
func TestFlip(t *testing.T) {
	for _, w := range []uint32{0, 12345, 0xdeadbeef, math.MaxUint32} {
		m := open(t, 3)
		for a := range 3 {
			checkWrite(t, m, a, w, api.OK)
		}
		stored := slices.Clone(m.codes)
		for a := range 3 {
			for bit := range 39 {
				stored[a] ^= 1 << bit
				flip(t, m, a, bit)
				checkStored(t, m, stored)
				checkRead(t, m, a, w)
				stored[a] ^= 1 << bit
				flip(t, m, a, bit)
				checkStored(t, m, stored)
			}
		}
		checkCounts(t, m, 3, 3, true)
		checkScrub(t, m, 3, Scrub{Visited: 3})
	}
}

// TestFlipOutOfRange checks P6.7 for words and bits there are not, and for both.
func TestFlipOutOfRange(t *testing.T) {
	m := open(t, 3)
	stored := slices.Clone(m.codes)
	for range 2 {
		for _, a := range missing(3) {
			checkNoFlip(t, m, a, 0)
			checkNoFlip(t, m, a, 38)
			checkNoFlip(t, m, a, 39)
		}
		for _, bit := range missing(39) {
			checkNoFlip(t, m, 0, bit)
			checkNoFlip(t, m, 2, bit)
		}
		checkStored(t, m, stored)
		m.Fuse(0)
	}
}

// TestFlipWithoutPower checks P6.7: Flip does not need power.
func TestFlipWithoutPower(t *testing.T) {
	m := open(t, 3)
	m.Fuse(0)
	flip(t, m, 0, 0)
	flip(t, m, 1, 38, 37)
	checkStored(t, m, []uint64{1, 3 << 37, 0})
	checkCounts(t, m, 3, 0, false)
	m.Reset()
	checkScrub(t, m, 3, Scrub{Visited: 3, Corrected: 1, Bad: 1})
}

// TestScrubVisits checks P6.8: how many words are visited, and where the next visit begins, for each scrub position.
func TestScrubVisits(t *testing.T) {
	for words := 1; words <= 6; words++ {
		for start := range words {
			for n := -2; n <= 3*words; n++ {
				m := open(t, words)
				m.Scrub(start)
				visited := min(max(n, 0), words)
				checkScrub(t, m, n, Scrub{Visited: visited})
				checkNext(t, m, (start+visited)%words)
			}
		}
	}
}

// TestScrubExtremes checks P6.8 for the least and the greatest numbers, in small and large memories.
func TestScrubExtremes(t *testing.T) {
	for _, words := range []int{2, 3, 4096} {
		m := open(t, words)
		m.Scrub(words - 1)
		for _, n := range []int{words, words + 1, 4097, 1 << 32, math.MaxInt} {
			flip(t, m, 0, 3)
			flip(t, m, words-1, 5)
			checkScrub(t, m, n, Scrub{Visited: words, Corrected: 2})
			checkNext(t, m, words-1)
		}
		for _, n := range []int{0, -1, -words, math.MinInt} {
			checkScrub(t, m, n, Scrub{})
			checkNext(t, m, words-1)
		}
	}
}

// TestScrubVisitsInOrder checks P6.8: the words from the scrub position on are visited, passing from the last one to word 0, and no others.
func TestScrubVisitsInOrder(t *testing.T) {
	const words = 7
	for start := range words {
		for n := range words + 1 {
			m := open(t, words)
			m.Scrub(start)
			for a := range words {
				checkWrite(t, m, a, mixed(a), api.OK)
				flip(t, m, a, 5*a)
			}
			stored := slices.Clone(m.codes)
			for k := range n {
				a := (start + k) % words
				stored[a] = ecc.Encode(mixed(a))
			}
			checkScrub(t, m, n, Scrub{Visited: n, Corrected: n})
			checkStored(t, m, stored)
		}
	}
}

// TestScrubCorrects checks P6.8 for each bit: the code word becomes that of the word, also if it is the parity bit or a check bit.
func TestScrubCorrects(t *testing.T) {
	m := open(t, 1)
	for _, w := range []uint32{0, 12345, 0xdeadbeef, math.MaxUint32} {
		checkWrite(t, m, 0, w, api.OK)
		for bit := range 39 {
			flip(t, m, 0, bit)
			checkScrub(t, m, 1, Scrub{Visited: 1, Corrected: 1})
			checkStored(t, m, []uint64{ecc.Encode(w)})
			checkScrub(t, m, 1, Scrub{Visited: 1})
		}
	}
}

// TestScrubLeavesBadWords checks P6.8 for each pair of bits: the code word does not change, and is found again.
func TestScrubLeavesBadWords(t *testing.T) {
	for first := range 39 {
		for second := range first {
			m := open(t, 2)
			checkWrite(t, m, 1, 0xdeadbeef, api.OK)
			flip(t, m, 1, first, second)
			stored := slices.Clone(m.codes)
			for range 2 {
				checkScrub(t, m, 2, Scrub{Visited: 2, Bad: 1})
				checkStored(t, m, stored)
			}
		}
	}
}

// TestScrubFollowsDecode checks P6.8 for three inverted bits, which Decode may take for a single one of another word: that word is stored.
func TestScrubFollowsDecode(t *testing.T) {
	taken := 0
	for bit := range 37 {
		m := open(t, 1)
		flip(t, m, 0, bit, bit+1, bit+2)
		w, status := ecc.Decode(m.codes[0])
		if status != 1 {
			continue
		}
		taken++
		checkScrub(t, m, 1, Scrub{Visited: 1, Corrected: 1})
		checkStored(t, m, []uint64{ecc.Encode(w)})
		checkRead(t, m, 0, w)
	}
	if taken == 0 {
		t.Error("no three bits were taken for a single one")
	}
}

// TestScrubDoesNotCount checks P6.8: the count of writes and the fuse do not change.
func TestScrubDoesNotCount(t *testing.T) {
	m := open(t, 3)
	checkWrite(t, m, 0, 1, api.OK)
	m.Fuse(1)
	for bit := range 39 {
		flip(t, m, bit%3, bit)
		checkScrub(t, m, 3, Scrub{Visited: 3, Corrected: 1})
	}
	checkCounts(t, m, 3, 1, true)
	checkFuse(t, m, 1)
}

// TestScrubWithoutPower checks P6.8: no word is visited, nothing changes, and the scrubber goes on at the same word after Reset.
func TestScrubWithoutPower(t *testing.T) {
	m := open(t, 4)
	m.Scrub(3)
	flip(t, m, 0, 1)
	flip(t, m, 3, 1)
	m.Fuse(0)
	stored := slices.Clone(m.codes)
	for _, n := range []int{-1, 0, 1, 4, 5, math.MaxInt} {
		checkScrub(t, m, n, Scrub{})
	}
	checkStored(t, m, stored)
	m.Reset()
	checkNext(t, m, 3)
	checkScrub(t, m, 2, Scrub{Visited: 2, Corrected: 2})
}

// TestIteratorStops checks that the numbers of the words are produced one at a time, and that the position after a break is that after the last one.
func TestIteratorStops(t *testing.T) {
	m := open(t, 5)
	m.Scrub(3)
	var got []int
	for a := range m.visits(5) {
		got = append(got, a)
		if len(got) == 3 {
			break
		}
	}
	if !slices.Equal(got, []int{3, 4, 0}) {
		t.Errorf("visits the words %v", got)
	}
	checkNext(t, m, 1)
}
